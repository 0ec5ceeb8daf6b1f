/-
  A certificate as data, and its validity.
-/
import Derived.Test.YtcoehkphdfejjaaEdMath
import Derived.Test.YtcoehkphdfejjaaPk1
namespace Go.Proofs.Ytcoehkphdfejjaa
open Go.RowKit
set_option linter.unusedVariables false

/-- A certificate. -/
structure Ct where
  sa : Int
  sr : Int
  bs : List Blk
  ta : Int
  tr : Int
  ts : Int
  ms : List MBlk
  inv : List (List Pr)

def Ct.i (c : Ct) (k : Nat) : List Pr := c.inv.getD k []

/-- The error of a certificate. -/
def validC (c : Ct) : Int :=
  if eF c.sa c.sr c.bs ≠ 0 then eF c.sa c.sr c.bs else if eMF c.ta c.tr c.ts c.ms ≠ 0 then eMF c.ta c.tr c.ts c.ms
  else if c.bs.length ≠ c.ms.length ∨ c.sa ≠ c.ta then 14 else validE c.inv c.bs.length c.sr c.tr c.ts

end Go.Proofs.Ytcoehkphdfejjaa
