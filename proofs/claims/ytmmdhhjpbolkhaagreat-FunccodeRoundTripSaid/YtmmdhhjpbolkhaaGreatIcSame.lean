/-
  The statements' same, read of layer 17.
-/
import Derived.Test.YtmmdhhjpbolkhaaGreatPk4
import Derived.Test.YtmmdhhjpbolkhaaGreatPk1
import Derived.Test.YtmmdhhjpbolkhaaGreatPk3
import Derived.BigQuiet
namespace Go.Proofs.YtmmdhhjpbolkhaaGreat
open Go.RowKit
set_option linter.unusedVariables false
set_option linter.unusedSimpArgs false

/-- Whether a cursor has the error, and without one the bytes left, of an input. -/
def sameQ (n i : Nat) (er : Int) (t : Ip) : Bool := er == t.err && (t.err != 0 || (leftS n i er == (t.rest.length : Int)))

/-- Whether a cursor has read just some bytes. -/
def readQ (i : Nat) (b want : List Nat) : Bool := ((i : Int) == (want.length : Int)) && (decide ((want.length : Int) ≤ (b.length : Int)) && sameB (b.take want.length) want)

end Go.Proofs.YtmmdhhjpbolkhaaGreat
