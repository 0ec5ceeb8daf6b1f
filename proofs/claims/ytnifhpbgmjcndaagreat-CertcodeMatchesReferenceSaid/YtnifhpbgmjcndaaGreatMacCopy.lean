/- The machine reference's Copy (written by wip/lab/genmcopy.py). -/
import Derived.Test.YtnifhpbgmjcndaaGreatPk3
set_option linter.unusedVariables false
set_option linter.unusedSimpArgs false
set_option maxRecDepth 100000
set_option maxHeartbeats 4000000
namespace Go.Proofs.YtnifhpbgmjcndaaGreat
open Go.RowKit
theorem zb7:(Tryz.prog.info? 131).map (fun i=>(i.zero,i.size,i.bytes))=some (some (.agg #[.int .i64 0,.int .i64 0,.int .i64 0,.int .i64 0,.int .i64 0,.int .i64 0,.int .i64 0]),7,56):=by kernel_rfl
theorem zb8:(Tryz.prog.info? 63).map (fun i=>(i.zero,i.size,i.bytes))=some (some (.agg #[.slice none 0 0,.int .i64 0,.int .i64 0,.int .i64 0,.int .i64 0]),5,56):=by kernel_rfl
def jV:Shp MBlk where
 eo:=63
 ei:=131
 so:=5
 si:=7
 oc:=fun u x=> [u,.int .i64 x.term.kind,.int .i64 x.term.a,.int .i64 x.term.to,.int .i64 x.term.el]
 ic:=fun x=>Jh x.code
 il:=fun x=>x.code.length
 ne:=by decide
 hoc:=fun _ _=>rfl
end Go.Proofs.YtnifhpbgmjcndaaGreat
