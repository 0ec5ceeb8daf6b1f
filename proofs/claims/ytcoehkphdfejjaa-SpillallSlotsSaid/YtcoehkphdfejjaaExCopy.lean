/-
  The reference's Copy of runs with slots.
-/
import Derived.Test.YtcoehkphdfejjaaExFns
namespace Go.Proofs.Ytcoehkphdfejjaa
open Go.RowKit
set_option linter.unusedVariables false

/-- What Copy carries: the boxes, the copy with the slices x, y, z so far. -/
structure CpX (w : World) (r : Xn) (RA : Option Addr) (rc : Nat) (SA : Option Addr) (sc : Nat) (TA : Option Addr) (tc : Nat) (x y z : Value) (W : World) : Prop where
  below : Below w.heap.size w W
  box : Row W w.heap.size 54 #[.int .i64 r.st, .int .i64 (r.blk : Int), .int .i64 (r.pos : Int), .int .i64 r.val, .slice RA r.regs.length rc, .slice SA r.slots.length sc, .slice TA r.trace.length tc, .int .i64 (r.steps : Int)]
  res : Row W (w.heap.size + 1) 54 #[.int .i64 0, .int .i64 0, .int .i64 0, .int .i64 0, .slice none 0 0, .slice none 0 0, .slice none 0 0, .int .i64 0]
  out : Row W (w.heap.size + 1 + 1) 54 #[.int .i64 r.st, .int .i64 (r.blk : Int), .int .i64 (r.pos : Int), .int .i64 r.val, x, y, z, .int .i64 (r.steps : Int)]

section
variable {w W W' : World} {r : Xn} {RA SA TA : Option Addr} {rc sc tc : Nat} {x y z : Value}

theorem CpX.next (h : CpX w r RA rc SA sc TA tc x y z W) (hb : Below W.heap.size W W') : CpX w r RA rc SA sc TA tc x y z W' :=
  ⟨h.below.trans (hb.mono h.below.size), h.box.below hb h.box.lt, h.res.below hb h.res.lt, h.out.below hb h.out.lt⟩

theorem CpX.put4 (h : CpX w r RA rc SA sc TA tc x y z W) (u : Value) : CpX w r RA rc SA sc TA tc u y z (W.setCell ⟨w.heap.size + 1 + 1, 4, none⟩ u) :=
  ⟨h.below.setCell (by show _ ≤ w.heap.size + 1 + 1; omega) _, h.box.far (by show _ ≠ w.heap.size + 1 + 1; omega) _, h.res.far (by show _ ≠ w.heap.size + 1 + 1; omega) _, h.out.put 4 u⟩

theorem CpX.put5 (h : CpX w r RA rc SA sc TA tc x y z W) (u : Value) : CpX w r RA rc SA sc TA tc x u z (W.setCell ⟨w.heap.size + 1 + 1, 5, none⟩ u) :=
  ⟨h.below.setCell (by show _ ≤ w.heap.size + 1 + 1; omega) _, h.box.far (by show _ ≠ w.heap.size + 1 + 1; omega) _, h.res.far (by show _ ≠ w.heap.size + 1 + 1; omega) _, h.out.put 5 u⟩

theorem CpX.put6 (h : CpX w r RA rc SA sc TA tc x y z W) (u : Value) : CpX w r RA rc SA sc TA tc x y u (W.setCell ⟨w.heap.size + 1 + 1, 6, none⟩ u) :=
  ⟨h.below.setCell (by show _ ≤ w.heap.size + 1 + 1; omega) _, h.box.far (by show _ ≠ w.heap.size + 1 + 1; omega) _, h.res.far (by show _ ≠ w.heap.size + 1 + 1; omega) _, h.out.put 6 u⟩

theorem CpX.start (w : World) (r : Xn) (RA : Option Addr) (rc : Nat) (SA : Option Addr) (sc : Nat) (TA : Option Addr) (tc : Nat) :
    CpX w r RA rc SA sc TA tc (.slice RA r.regs.length rc) (.slice SA r.slots.length sc) (.slice TA r.trace.length tc) (((w.alloc (.cells #[.int .i64 r.st, .int .i64 (r.blk : Int), .int .i64 (r.pos : Int), .int .i64 r.val, .slice RA r.regs.length rc, .slice SA r.slots.length sc, .slice TA r.trace.length tc, .int .i64 (r.steps : Int)] 54)).alloc (.cells #[.int .i64 0, .int .i64 0, .int .i64 0, .int .i64 0, .slice none 0 0, .slice none 0 0, .slice none 0 0, .int .i64 0] 54)).alloc (.cells #[.int .i64 r.st, .int .i64 (r.blk : Int), .int .i64 (r.pos : Int), .int .i64 r.val, .slice RA r.regs.length rc, .slice SA r.slots.length sc, .slice TA r.trace.length tc, .int .i64 (r.steps : Int)] 54)) where
  below := (((Below.refl w.heap.size w).alloc (Nat.le_refl _) _).alloc (by simp) _).alloc (by simp; omega) _
  box := ((Row.new w _ _).alloc _).alloc _
  res := (Row.new' (p := w.heap.size + 1) (by simp) _ _).alloc _
  out := Row.new' (p := w.heap.size + 1 + 1) (by simp) _ _

end

end Go.Proofs.Ytcoehkphdfejjaa
