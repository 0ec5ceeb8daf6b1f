/-
  The reference of layer 16: Few, Valid.
-/
import Derived.Test.YtkapmfopfddmbaaPk15
import Derived.Test.YtkapmfopfddmbaaPk7
import Derived.Test.YtkapmfopfddmbaaPk16
import Derived.Test.YtkapmfopfddmbaaEdRef
namespace Go.Proofs.Ytkapmfopfddmbaa
open Go.RowKit
set_option linter.unusedVariables false

/-- A small certificate. -/
structure SmC (c : Ct) : Prop where
  f : FewF c.sr c.bs
  m : FewM c.tr c.ts c.ms
  n : c.inv.length ≤ 40
  l : ∀ x ∈ c.inv, x.length ≤ 400

def SmC.P (c : Ct) (w : World) (e : Ending) (w' : World) : Prop := (∃ b, e = .returned (.bool b) ∧ (b = true → SmC c)) ∧ Below w.heap.size w w'

end Go.Proofs.Ytkapmfopfddmbaa
