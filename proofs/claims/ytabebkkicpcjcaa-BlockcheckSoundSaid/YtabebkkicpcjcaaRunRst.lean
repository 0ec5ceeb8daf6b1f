/-
  The reference's Start.
-/
import Derived.Test.YtabebkkicpcjcaaRunCopy
import Derived.Test.YtabebkkicpcjcaaRunOwn
import Derived.Deep.LoopGhost
import Derived.LoopTactic
namespace Go.Proofs.Ytabebkkicpcjcaa
open Go.RowKit
set_option linter.unusedVariables false

/-- What the loop carries: the boxes, the run with k registers so far. -/
structure RsS (w : World) (args regs : Int) (FA : Option Addr) (bl bc : Nat) (p : Nat) (l : List Int) (v : Value) (W : World) : Prop where
  below : Below w.heap.size w W
  lt : w.heap.size + 1 < p
  box : Row W w.heap.size 51 #[.int .i64 args, .int .i64 regs, .slice FA bl bc]
  res : Row W (w.heap.size + 1) 56 #[.int .i64 0, .int .i64 0, .int .i64 0, .int .i64 0, .slice none 0 0, .slice none 0 0, .slice none 0 0, .int .i64 0]
  out : Row W p 56 #[.int .i64 0, .int .i64 0, .int .i64 0, .int .i64 0, v, .slice none 0 0, .slice none 0 0, .int .i64 0]
  own : W.ownsRow (w.heap.size + 1 + 1) 2 1 v l.length (ints l)
theorem RsS.step {w wr W : World} {args regs : Int} {FA : Option Addr} {bl bc p : Nat} {l l' : List Int} {v v' : Value} (h : RsS w args regs FA bl bc p l v wr) (o : Obj) (hg : (wr.alloc o).grownBy W v.ownBlock) (ho : W.ownsRow (w.heap.size + 1 + 1) 2 1 v' l'.length (ints l')) :
    Row W p 56 #[.int .i64 0, .int .i64 0, .int .i64 0, .int .i64 0, v, .slice none 0 0, .slice none 0 0, .int .i64 0] ∧ RsS w args regs FA bl bc p l' v' (W.setCell ⟨p, 4, none⟩ v') := by
  have hne := own_row_ne h.own h.out (by decide)
  have hlt := h.lt
  have hb : Below (w.heap.size + 1 + 1) wr W := ((Below.refl _ wr).alloc (by have := h.out.lt; omega) o).grown hg (by have := h.out.lt; simp; omega) fun k hk => (ownS_lt h.own k hk).1
  have hr : Row W p 56 #[.int .i64 0, .int .i64 0, .int .i64 0, .int .i64 0, v, .slice none 0 0, .slice none 0 0, .int .i64 0] :=
    (hg.block p (by have := h.out.lt; simp; omega) fun e => hne p e.symm rfl).trans (h.out.alloc o)
  have hne2 := own_row_ne ho hr (by decide)
  refine ⟨hr, (h.below.trans (hb.mono (by omega))).setCell (by show _ ≤ p; omega) _, h.lt, (h.box.below hb (by omega)).far (by show _ ≠ p; omega) _, (h.res.below hb (by omega)).far (by show _ ≠ p; omega) _, hr.put 4 v', ((Mods.refl (Is p) W).put 4 v').ownS ho fun k hk hs => hne2 k hk hs⟩

end Go.Proofs.Ytabebkkicpcjcaa
