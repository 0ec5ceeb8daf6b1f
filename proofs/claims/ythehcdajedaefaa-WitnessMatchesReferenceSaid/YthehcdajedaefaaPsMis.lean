/-
  Missing of both.
-/
import Derived.Test.YthehcdajedaefaaPsOwn
namespace Go.Proofs.Ythehcdajedaefaa
open Go.RowKit
set_option linter.unusedVariables false

/-- What Missing returns. -/
def mres : Option Pr → Value
  | some p => .tuple #[.agg #[.int .i64 p.1, .int .i64 p.2], .bool true]
  | none => .tuple #[.agg #[.int .i64 0, .int .i64 0], .bool false]

end Go.Proofs.Ythehcdajedaefaa
