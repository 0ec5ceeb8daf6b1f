import Derived.Test.YtnifhpbgmjcndaaGreatPk12
set_option linter.unusedVariables false
set_option linter.unusedSimpArgs false
set_option linter.unusedSectionVars false
namespace Go.Proofs.YtnifhpbgmjcndaaGreat
open Go.RowKit
abbrev prObj(x1 x2:Int):Obj:= .cells #[.int .i64 x1,.int .i64 x2] 55
end Go.Proofs.YtnifhpbgmjcndaaGreat
