/-
  Whether two reports are the same.
-/
import Derived.Test.YtapdheabblgbaaaGreatCkMath
import Derived.Laws.StructEq
namespace Go.Proofs.YtapdheabblgbaaaGreat
open Go.RowKit
set_option linter.unusedVariables false

def rpS (a b : Rp) : Bool := a.err == b.err && (a.blk : Int) == (b.blk : Int) && (a.at_ : Int) == (b.at_ : Int) && (a.blocks : Int) == (b.blocks : Int) && (a.edges : Int) == (b.edges : Int) && (a.steps : Int) == (b.steps : Int) && (a.largest : Int) == (b.largest : Int)
theorem rpS_refl (a : Rp) : rpS a a = true := by simp [rpS]

set_option maxHeartbeats 4000000 in
theorem eq_rp (a b : Rp) (w : World) : (binOp .eql 37 (.agg #[.int .i64 a.err, .int .i64 (a.blk : Int), .int .i64 (a.at_ : Int), .int .i64 (a.blocks : Int), .int .i64 (a.edges : Int), .int .i64 (a.steps : Int), .int .i64 (a.largest : Int)]) (.agg #[.int .i64 b.err, .int .i64 (b.blk : Int), .int .i64 (b.at_ : Int), .int .i64 (b.blocks : Int), .int .i64 (b.edges : Int), .int .i64 (b.steps : Int), .int .i64 (b.largest : Int)])).run Tryz.prog w = .ok (.bool (rpS a b)) w := by
  have u3 := Tryz.underlying3
  have a3 := Tryz.isAgg3
  have z3 := Tryz.sizeOf3
  have u4 := Tryz.underlying33
  have a4 := Tryz.isAgg33
  have z4 := Tryz.sizeOf33
  have hS : Tryz.prog.underlying 37 = some (.struct (Tryz.prog.fieldsOf 37)) := by kernel_rfl
  have hp : Tryz.prog.stoodInHeld 37 = false := by kernel_rfl
  rw [run_eql_struct, show (10000 : Nat) = 9999 + 1 from rfl, run_equalIn_agg w 9999 37 _ _ hS hp]
  simp only [Program.fieldsOf, Tryz.underlying37]
  obtain ⟨x0, x1, x2, x3, x4, x5, x6⟩ := a
  obtain ⟨y0, y1, y2, y3, y4, y5, y6⟩ := b
  dsimp only [rpS]
  generalize (x1 : Int) = x1, (x2 : Int) = x2, (x3 : Int) = x3, (x4 : Int) = x4, (x5 : Int) = x5, (x6 : Int) = x6, (y1 : Int) = y1, (y2 : Int) = y2, (y3 : Int) = y3, (y4 : Int) = y4, (y5 : Int) = y5, (y6 : Int) = y6
  go_simp
  by_cases h0 : x0 = y0 <;> by_cases h1 : x1 = y1 <;> by_cases h2 : x2 = y2 <;> by_cases h3 : x3 = y3 <;> by_cases h4 : x4 = y4 <;> by_cases h5 : x5 = y5 <;> by_cases h6 : x6 = y6 <;> simp [h0, h1, h2, h3, h4, h5, h6]

end Go.Proofs.YtapdheabblgbaaaGreat
