/-
  The reference's Step (written by wip/lab/genrs.py).
-/
import Derived.Test.YtcoehkphdfejjaaRunOu
import Derived.Test.YtcoehkphdfejjaaAluRef
namespace Go.Proofs.Ytcoehkphdfejjaa
open Go.RowKit
set_option linter.unusedVariables false
set_option linter.unusedSimpArgs false

/-- What the reference's Step carries: the boxes, the result, the run that is made. -/
structure RsW (w : World) (args regs0 : Int) (BA : Option Addr) (bl bc : Nat) (RA : Option Addr) (rc : Nat) (SA : Option Addr) (sc : Nat) (TA : Option Addr) (tc : Nat) (r : Rn) (z : Nat) (OA : Option Addr) (oc : Nat) (OS : Option Addr) (os : Nat) (OT : Option Addr) (ot : Nat) (r' : Rn) (W : World) : Prop where
  below : Below w.heap.size w W
  bf : Row W w.heap.size 24 #[.int .i64 args, .int .i64 regs0, .slice BA bl bc]
  bx : Row W (w.heap.size + 1) 54 #[.int .i64 r.st, .int .i64 (r.blk : Int), .int .i64 (r.pos : Int), .int .i64 r.val, .slice RA r.regs.length rc, .slice SA 0 sc, .slice TA r.trace.length tc, .int .i64 (r.steps : Int)]
  res : Row W (w.heap.size + 1 + 1) 54 #[.int .i64 0, .int .i64 0, .int .i64 0, .int .i64 0, .slice none 0 0, .slice none 0 0, .slice none 0 0, .int .i64 0]
  ou : Ou W (w.heap.size + 1 + 1 + 1) z OA oc OS os OT ot r'

section
variable {w : World} {args regs0 : Int} {BA : Option Addr} {bl bc : Nat} {RA : Option Addr} {rc : Nat} {SA : Option Addr} {sc : Nat} {TA : Option Addr} {tc : Nat} {r : Rn} {z : Nat} {OA OA' : Option Addr} {oc oc' : Nat} {OS : Option Addr} {os : Nat} {OT OT' : Option Addr} {ot ot' : Nat} {r' r'' : Rn} {W W' : World}

theorem RsW.next (h : RsW w args regs0 BA bl bc RA rc SA sc TA tc r z OA oc OS os OT ot r' W) (hb : Below W.heap.size W W') : RsW w args regs0 BA bl bc RA rc SA sc TA tc r z OA oc OS os OT ot r' W' :=
  ⟨h.below.trans (hb.mono h.below.size), h.bf.below hb h.bf.lt, h.bx.below hb h.bx.lt, h.res.below hb h.res.lt, h.ou.next hb⟩

theorem RsW.upd (h : RsW w args regs0 BA bl bc RA rc SA sc TA tc r z OA oc OS os OT ot r' W) (hb : Below (w.heap.size + 1 + 1 + 1) W W') (ho : Ou W' (w.heap.size + 1 + 1 + 1) z OA' oc' OS os OT' ot' r'') : RsW w args regs0 BA bl bc RA rc SA sc TA tc r z OA' oc' OS os OT' ot' r'' W' :=
  ⟨h.below.trans (hb.mono (by omega)), h.bf.below hb (by omega), h.bx.below hb (by omega), h.res.below hb (by omega), ho⟩

theorem RsW.start (args regs0 : Int) (BA : Option Addr) (bl bc : Nat) {W0 : World} (hb : Below w.heap.size w W0) (h0 : Row W0 w.heap.size 24 #[.int .i64 args, .int .i64 regs0, .slice BA bl bc]) (h1 : Row W0 (w.heap.size + 1) 54 #[.int .i64 r.st, .int .i64 (r.blk : Int), .int .i64 (r.pos : Int), .int .i64 r.val, .slice RA r.regs.length rc, .slice SA 0 sc, .slice TA r.trace.length tc, .int .i64 (r.steps : Int)])
    (h2 : Row W0 (w.heap.size + 1 + 1) 54 #[.int .i64 0, .int .i64 0, .int .i64 0, .int .i64 0, .slice none 0 0, .slice none 0 0, .slice none 0 0, .int .i64 0]) (hv : RunV W W0.heap.size OA oc OT ot r) (hb1 : Below W0.heap.size W0 W) :
    RsW w args regs0 BA bl bc RA rc SA sc TA tc r W.heap.size OA oc OS os OT ot r (W.alloc (.cells #[.int .i64 r.st, .int .i64 (r.blk : Int), .int .i64 (r.pos : Int), .int .i64 r.val, .slice OA r.regs.length oc, .slice OS 0 os, .slice OT r.trace.length ot, .int .i64 (r.steps : Int)] 54)) where
  below := (hb.trans (hb1.mono hb.size)).alloc (by have := hb.size; have := hb1.size; omega) _
  bf := (h0.below hb1 h0.lt).alloc _
  bx := (h1.below hb1 h1.lt).alloc _
  res := (h2.below hb1 h2.lt).alloc _
  ou := ⟨Row.new _ _ _, (hv.base h2.lt).below ((Below.refl _ _).alloc (Nat.le_refl _) _), by have := h2.lt; have := hb1.size; omega⟩

/-- The same with the instruction's box. -/
structure RX (w : World) (args regs0 : Int) (BA : Option Addr) (bl bc : Nat) (RA : Option Addr) (rc : Nat) (SA : Option Addr) (sc : Nat) (TA : Option Addr) (tc : Nat) (r : Rn) (z : Nat) (OA : Option Addr) (oc : Nat) (OS : Option Addr) (os : Nat) (OT : Option Addr) (ot : Nat) (r' : Rn) (xb : Nat) (x : In) (W : World) : Prop where
  rs : RsW w args regs0 BA bl bc RA rc SA sc TA tc r z OA oc OS os OT ot r' W
  ix : Row W xb 62 #[.int .i64 x.op, .int .i64 x.d, .int .i64 x.a, .int .i64 x.b, .int .i64 x.imm]

theorem RX.next {xb : Nat} {x : In} (h : RX w args regs0 BA bl bc RA rc SA sc TA tc r z OA oc OS os OT ot r' xb x W) (hb : Below W.heap.size W W') : RX w args regs0 BA bl bc RA rc SA sc TA tc r z OA oc OS os OT ot r' xb x W' := ⟨h.rs.next hb, h.ix.below hb h.ix.lt⟩

theorem RX.drewN {xb : Nat} {x : In} (h : RX w args regs0 BA bl bc RA rc SA sc TA tc r z OA oc OS os OT ot r' xb x W) (n : Nat) : RX w args regs0 BA bl bc RA rc SA sc TA tc r z OA oc OS os OT ot r' xb x (W.drewN n) := h.next (blw_drewN (Below.refl _ _) n)

theorem RX.drew {xb : Nat} {x : In} (h : RX w args regs0 BA bl bc RA rc SA sc TA tc r z OA oc OS os OT ot r' xb x W) : RX w args regs0 BA bl bc RA rc SA sc TA tc r z OA oc OS os OT ot r' xb x W.drew := h.drewN 1

end

end Go.Proofs.Ytcoehkphdfejjaa
