/-
  The functions of the program's table, and the search in the table.
-/
import Derived.Test.YtabebkkicpcjcaaPk1
namespace Go.Proofs.Ytabebkkicpcjcaa
open Go.RowKit

end Go.Proofs.Ytabebkkicpcjcaa
