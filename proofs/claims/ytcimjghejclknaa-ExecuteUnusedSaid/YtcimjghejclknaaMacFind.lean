/-
  The finder: newFinder, find, and the program's Instr.
-/
import Derived.Test.YtcimjghejclknaaMacIns
import Derived.Deep.RegionWith
import Derived.Deep.RegionHeld3
import Derived.Deep.DeepMust
namespace Go.Proofs.Ytcimjghejclknaa
open Go.RowKit
set_option linter.unusedVariables false

/-- The blocks p and q hold these numbers. -/
structure Fin2 (w : World) (p q : Nat) (regs slots : Int) : Prop where
  p : w.cell? ⟨p, 0, none⟩ = some (.int .i64 regs)
  q : w.cell? ⟨q, 0, none⟩ = some (.int .i64 slots)
theorem Fin2.lt {w : World} {p q : Nat} {regs slots : Int} (h : Fin2 w p q regs slots) : p < w.heap.size ∧ q < w.heap.size :=
  ⟨World.block_lt_of_cell? w _ h.p, World.block_lt_of_cell? w _ h.q⟩
theorem Fin2.below {w w' : World} {p q B : Nat} {regs slots : Int} (h : Fin2 w p q regs slots) (hb : Below B w w') (hp : p < B) (hq : q < B) : Fin2 w' p q regs slots :=
  ⟨(hb.cell (p := ⟨p, 0, none⟩) hp).trans h.p, (hb.cell (p := ⟨q, 0, none⟩) hq).trans h.q⟩
theorem Fin2.next {w w' : World} {p q : Nat} {regs slots : Int} (h : Fin2 w p q regs slots) (hb : Below w.heap.size w w') : Fin2 w' p q regs slots := h.below hb h.lt.1 h.lt.2

/-- What a walk carries that holds one instruction in its first block. -/
structure GI (w : World) (x : Mi) (W : World) : Prop where
  below : Below w.heap.size w W
  i : Row W w.heap.size 52 #[.int .i64 x.op, .int .i64 x.d, .int .i64 x.a, .int .i64 x.b, .int .i64 x.imm, .int .i64 x.dst, .int .i64 x.src]
section
variable {w : World} {x : Mi} {W W' : World}
theorem GI.next (h : GI w x W) (hb : Below W.heap.size W W') : GI w x W' := ⟨h.below.trans (hb.mono h.below.size), h.i.below hb h.i.lt⟩
theorem blw_drew (w : World) (n : Nat) : Below w.heap.size w (w.drewN n) := blw_drewN (Below.refl _ _) n
theorem GI.drewN (h : GI w x W) (n : Nat) : GI w x (W.drewN n) := h.next (blw_drew W n)
theorem GI.drew (h : GI w x W) : GI w x W.drew := h.drewN 1
theorem Fin2.drewN {p q : Nat} {regs slots : Int} (h : Fin2 W p q regs slots) (n : Nat) : Fin2 (W.drewN n) p q regs slots := h.next (blw_drew W n)
theorem Fin2.drew {p q : Nat} {regs slots : Int} (h : Fin2 W p q regs slots) : Fin2 W.drew p q regs slots := h.drewN 1
def GI.S (w : World) (x : Mi) (W : World) : Prop :=
  GI w x W ∧ W.cell? ⟨w.heap.size, 0, none⟩ = some (.int .i64 x.op) ∧ W.cell? ⟨w.heap.size, 1, none⟩ = some (.int .i64 x.d) ∧ W.cell? ⟨w.heap.size, 2, none⟩ = some (.int .i64 x.a) ∧ W.cell? ⟨w.heap.size, 3, none⟩ = some (.int .i64 x.b) ∧ W.cell? ⟨w.heap.size, 4, none⟩ = some (.int .i64 x.imm) ∧ W.cell? ⟨w.heap.size, 5, none⟩ = some (.int .i64 x.dst) ∧ W.cell? ⟨w.heap.size, 6, none⟩ = some (.int .i64 x.src)
theorem GI.cells (h : GI w x W) : GI.S w x W := ⟨h, h.i.cell 0, h.i.cell 1, h.i.cell 2, h.i.cell 3, h.i.cell 4, h.i.cell 5, h.i.cell 6⟩
end

end Go.Proofs.Ytcimjghejclknaa
