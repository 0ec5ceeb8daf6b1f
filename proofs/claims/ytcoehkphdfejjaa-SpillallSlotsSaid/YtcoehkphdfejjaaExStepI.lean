/-
  The program's Step.
-/
import Derived.Test.YtcoehkphdfejjaaPk9
import Derived.Test.YtcoehkphdfejjaaPk8
namespace Go.Proofs.Ytcoehkphdfejjaa
open Go.RowKit
set_option linter.unusedVariables false
set_option linter.unusedSimpArgs false

/-- What Step carries: the run's box, the result, the executor, the slices that came in. -/
structure StX (w : World) (RA : Option Addr) (rc : Nat) (SA : Option Addr) (sc : Nat) (TA : Option Addr) (tc : Nat) (BA : Option Addr) (bl bc : Nat) (r : Xn) (W : World) : Prop where
  below : Below w.heap.size w W
  bx : Row W (w.heap.size + 1) 54 #[.int .i64 r.st, .int .i64 (r.blk : Int), .int .i64 (r.pos : Int), .int .i64 r.val, .slice RA r.regs.length rc, .slice SA r.slots.length sc, .slice TA r.trace.length tc, .int .i64 (r.steps : Int)]
  res : Row W (w.heap.size + 1 + 1) 54 #[.int .i64 0, .int .i64 0, .int .i64 0, .int .i64 0, .slice none 0 0, .slice none 0 0, .slice none 0 0, .int .i64 0]
  pr : Row W (w.heap.size + 1 + 1 + 1) exT #[.int .i64 r.st, .int .i64 (r.blk : Int), .int .i64 (r.pos : Int), .int .i64 r.val, .slice RA r.regs.length rc, .slice SA r.slots.length sc, .slice TA r.trace.length tc, .int .i64 (r.steps : Int), .slice BA bl bc]
  v : ∃ lo, XV W lo RA rc SA sc TA tc r

section
variable {w W W' : World} {RA SA TA BA : Option Addr} {rc sc tc bl bc : Nat} {r : Xn}

theorem StX.next (h : StX w RA rc SA sc TA tc BA bl bc r W) (hb : Below W.heap.size W W') : StX w RA rc SA sc TA tc BA bl bc r W' :=
  ⟨h.below.trans (hb.mono h.below.size), h.bx.below hb h.bx.lt, h.res.below hb h.res.lt, h.pr.below hb h.pr.lt, by obtain ⟨lo, hv⟩ := h.v; exact ⟨lo, hv.below hb⟩⟩

theorem StX.drewN (h : StX w RA rc SA sc TA tc BA bl bc r W) (n : Nat) : StX w RA rc SA sc TA tc BA bl bc r (W.drewN n) := h.next (blw_drewN (Below.refl _ _) n)

theorem StX.drew (h : StX w RA rc SA sc TA tc BA bl bc r W) : StX w RA rc SA sc TA tc BA bl bc r W.drew := h.drewN 1

theorem StX.start {lo : Nat} (hV : XV w lo RA rc SA sc TA tc r) (BA : Option Addr) (bl bc : Nat) (args regs0 slots0 : Int) : StX w RA rc SA sc TA tc BA bl bc r ((((w.alloc (.cells #[.int .i64 args, .int .i64 regs0, .int .i64 slots0, .slice BA bl bc] 29)).alloc (.cells #[.int .i64 r.st, .int .i64 (r.blk : Int), .int .i64 (r.pos : Int), .int .i64 r.val, .slice RA r.regs.length rc, .slice SA r.slots.length sc, .slice TA r.trace.length tc, .int .i64 (r.steps : Int)] 54)).alloc (.cells #[.int .i64 0, .int .i64 0, .int .i64 0, .int .i64 0, .slice none 0 0, .slice none 0 0, .slice none 0 0, .int .i64 0] 54)).alloc (.cells #[.int .i64 r.st, .int .i64 (r.blk : Int), .int .i64 (r.pos : Int), .int .i64 r.val, .slice RA r.regs.length rc, .slice SA r.slots.length sc, .slice TA r.trace.length tc, .int .i64 (r.steps : Int), .slice BA bl bc] exT)) :=
  have hb := (((((Below.refl w.heap.size w).alloc (Nat.le_refl _) (.cells #[.int .i64 args, .int .i64 regs0, .int .i64 slots0, .slice BA bl bc] 29)).alloc (by simp) (.cells #[.int .i64 r.st, .int .i64 (r.blk : Int), .int .i64 (r.pos : Int), .int .i64 r.val, .slice RA r.regs.length rc, .slice SA r.slots.length sc, .slice TA r.trace.length tc, .int .i64 (r.steps : Int)] 54)).alloc (by simp; omega) (.cells #[.int .i64 0, .int .i64 0, .int .i64 0, .int .i64 0, .slice none 0 0, .slice none 0 0, .slice none 0 0, .int .i64 0] 54)).alloc (by simp; omega) (.cells #[.int .i64 r.st, .int .i64 (r.blk : Int), .int .i64 (r.pos : Int), .int .i64 r.val, .slice RA r.regs.length rc, .slice SA r.slots.length sc, .slice TA r.trace.length tc, .int .i64 (r.steps : Int), .slice BA bl bc] exT))
  ⟨hb, ((Row.new' (p := w.heap.size + 1) (by simp) _ _).alloc _).alloc _, (Row.new' (p := w.heap.size + 1 + 1) (by simp) _ _).alloc _, Row.new' (p := w.heap.size + 1 + 1 + 1) (by simp) _ _, lo, hV.below hb⟩

end

end Go.Proofs.Ytcoehkphdfejjaa
