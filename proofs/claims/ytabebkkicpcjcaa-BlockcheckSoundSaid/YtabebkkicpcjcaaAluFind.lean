/-
  The search in the table of functions.
-/
import Derived.Test.YtabebkkicpcjcaaAluFns
import Derived.Deep.WholeRow
import Derived.Great.BuildSlice
import Derived.Laws.EntriesVeiled
namespace Go.Proofs.Ytabebkkicpcjcaa
open Go.RowKit

end Go.Proofs.Ytabebkkicpcjcaa
