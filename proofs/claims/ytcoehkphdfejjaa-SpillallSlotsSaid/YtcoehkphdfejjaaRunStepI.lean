/-
  The program's Step (its region is written by wip/lab/genstepi.py).
-/
import Derived.Test.YtcoehkphdfejjaaPk8
namespace Go.Proofs.Ytcoehkphdfejjaa
open Go.RowKit
set_option linter.unusedVariables false
set_option linter.unusedSimpArgs false

/-- What Step carries: the run's box, the result, the interpreter. -/
structure StW (w : World) (RA : Option Addr) (rc : Nat) (SA : Option Addr) (sc : Nat) (TA : Option Addr) (tc : Nat) (BA : Option Addr) (bl bc : Nat) (r : Rn) (W : World) : Prop where
  below : Below w.heap.size w W
  bx : Row W (w.heap.size + 1) 54 #[.int .i64 r.st, .int .i64 (r.blk : Int), .int .i64 (r.pos : Int), .int .i64 r.val, .slice RA r.regs.length rc, .slice SA 0 sc, .slice TA r.trace.length tc, .int .i64 (r.steps : Int)]
  res : Row W (w.heap.size + 1 + 1) 54 #[.int .i64 0, .int .i64 0, .int .i64 0, .int .i64 0, .slice none 0 0, .slice none 0 0, .slice none 0 0, .int .i64 0]
  pr : Row W (w.heap.size + 1 + 1 + 1) 81 #[.int .i64 r.st, .int .i64 (r.blk : Int), .int .i64 (r.pos : Int), .int .i64 r.val, .slice RA r.regs.length rc, .slice SA 0 sc, .slice TA r.trace.length tc, .int .i64 (r.steps : Int), .slice BA bl bc]

section
variable {w W W' : World} {RA SA TA BA : Option Addr} {rc sc tc bl bc : Nat} {r : Rn}

theorem StW.next (h : StW w RA rc SA sc TA tc BA bl bc r W) (hb : Below W.heap.size W W') : StW w RA rc SA sc TA tc BA bl bc r W' :=
  ⟨h.below.trans (hb.mono h.below.size), h.bx.below hb h.bx.lt, h.res.below hb h.res.lt, h.pr.below hb h.pr.lt⟩

theorem StW.start (w : World) (r : Rn) (RA : Option Addr) (rc : Nat) (SA : Option Addr) (sc : Nat) (TA : Option Addr) (tc : Nat) (BA : Option Addr) (bl bc : Nat) (args regs : Int) :
    StW w RA rc SA sc TA tc BA bl bc r ((((w.alloc (.cells #[.int .i64 args, .int .i64 regs, .slice BA bl bc] 24)).alloc (.cells #[.int .i64 r.st, .int .i64 (r.blk : Int), .int .i64 (r.pos : Int), .int .i64 r.val, .slice RA r.regs.length rc, .slice SA 0 sc, .slice TA r.trace.length tc, .int .i64 (r.steps : Int)] 54)).alloc (.cells #[.int .i64 0, .int .i64 0, .int .i64 0, .int .i64 0, .slice none 0 0, .slice none 0 0, .slice none 0 0, .int .i64 0] 54)).alloc (.cells #[.int .i64 r.st, .int .i64 (r.blk : Int), .int .i64 (r.pos : Int), .int .i64 r.val, .slice RA r.regs.length rc, .slice SA 0 sc, .slice TA r.trace.length tc, .int .i64 (r.steps : Int), .slice BA bl bc] 81)) where
  below := ((((Below.refl w.heap.size w).alloc (Nat.le_refl _) _).alloc (by simp) _).alloc (by simp; omega) _).alloc (by simp; omega) _
  bx := ((Row.new' (p := w.heap.size + 1) (by simp) _ _).alloc _).alloc _
  res := (Row.new' (p := w.heap.size + 1 + 1) (by simp) _ _).alloc _
  pr := Row.new' (p := w.heap.size + 1 + 1 + 1) (by simp) _ _

end

end Go.Proofs.Ytcoehkphdfejjaa
