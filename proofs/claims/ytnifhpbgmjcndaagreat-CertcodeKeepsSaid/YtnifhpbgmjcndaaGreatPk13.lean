import Derived.Test.YtnifhpbgmjcndaaGreatPk12
set_option linter.unusedVariables false
set_option linter.unusedSimpArgs false
set_option linter.unusedSectionVars false
namespace Go.Proofs.YtnifhpbgmjcndaaGreat
open Go.RowKit
theorem zhk:(Tryz.prog.info? 55).map (fun i=>(i.zero,i.size,i.bytes))=some (some (.agg #[.int .i64 0,.int .i64 0]),2,16):=by kernel_rfl
abbrev prObj(x1 x2:Int):Obj:= .cells #[.int .i64 x1,.int .i64 x2] 55
end Go.Proofs.YtnifhpbgmjcndaaGreat
