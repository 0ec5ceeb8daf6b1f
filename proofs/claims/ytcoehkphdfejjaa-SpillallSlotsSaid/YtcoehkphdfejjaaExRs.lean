/-
  The reference's Step of layer 10 (written by wip/lab/genxrs.py).
-/
import Derived.Test.YtcoehkphdfejjaaExCopy
import Derived.Test.YtcoehkphdfejjaaPk9
import Derived.Test.YtcoehkphdfejjaaPk1
import Derived.Test.YtcoehkphdfejjaaAluRef
import Derived.Deep.RegionHeld3
import Derived.Deep.DeepMust
import Derived.RegionTactic
import Derived.ChangeAlike
namespace Go.Proofs.Ytcoehkphdfejjaa
open Go.RowKit
set_option linter.unusedVariables false
set_option linter.unusedSimpArgs false

abbrev runT : TypeId := 54

/-- What the reference's Step carries: the boxes, the result, the run that is made. -/
structure RsX (w : World) (args regs0 slots0 : Int) (BA : Option Addr) (bl bc : Nat) (RA : Option Addr) (rc : Nat) (SA : Option Addr) (sc : Nat) (TA : Option Addr) (tc : Nat) (r : Xn) (z : Nat) (OA : Option Addr) (oc : Nat) (OS : Option Addr) (os : Nat) (OT : Option Addr) (ot : Nat) (r' : Xn) (W : World) : Prop where
  below : Below w.heap.size w W
  bf : Row W w.heap.size 29 #[.int .i64 args, .int .i64 regs0, .int .i64 slots0, .slice BA bl bc]
  bx : Row W (w.heap.size + 1) 54 #[.int .i64 r.st, .int .i64 (r.blk : Int), .int .i64 (r.pos : Int), .int .i64 r.val, .slice RA r.regs.length rc, .slice SA r.slots.length sc, .slice TA r.trace.length tc, .int .i64 (r.steps : Int)]
  res : Row W (w.heap.size + 1 + 1) 54 #[.int .i64 0, .int .i64 0, .int .i64 0, .int .i64 0, .slice none 0 0, .slice none 0 0, .slice none 0 0, .int .i64 0]
  ou : Xp W (w.heap.size + 1 + 1 + 1) z runT [] OA oc OS os OT ot r'

section
variable {w : World} {args regs0 slots0 : Int} {BA : Option Addr} {bl bc : Nat} {RA : Option Addr} {rc : Nat} {SA : Option Addr} {sc : Nat} {TA : Option Addr} {tc : Nat} {r : Xn} {z : Nat} {OA OA' : Option Addr} {oc oc' : Nat} {OS OS' : Option Addr} {os os' : Nat} {OT OT' : Option Addr} {ot ot' : Nat} {r' r'' : Xn} {W W' : World}

theorem RsX.next (h : RsX w args regs0 slots0 BA bl bc RA rc SA sc TA tc r z OA oc OS os OT ot r' W) (hb : Below W.heap.size W W') : RsX w args regs0 slots0 BA bl bc RA rc SA sc TA tc r z OA oc OS os OT ot r' W' :=
  ⟨h.below.trans (hb.mono h.below.size), h.bf.below hb h.bf.lt, h.bx.below hb h.bx.lt, h.res.below hb h.res.lt, h.ou.next hb⟩

theorem RsX.drewN (h : RsX w args regs0 slots0 BA bl bc RA rc SA sc TA tc r z OA oc OS os OT ot r' W) (n : Nat) : RsX w args regs0 slots0 BA bl bc RA rc SA sc TA tc r z OA oc OS os OT ot r' (W.drewN n) := h.next (blw_drewN (Below.refl _ _) n)

theorem RsX.drew (h : RsX w args regs0 slots0 BA bl bc RA rc SA sc TA tc r z OA oc OS os OT ot r' W) : RsX w args regs0 slots0 BA bl bc RA rc SA sc TA tc r z OA oc OS os OT ot r' W.drew := h.drewN 1

theorem RsX.upd (h : RsX w args regs0 slots0 BA bl bc RA rc SA sc TA tc r z OA oc OS os OT ot r' W) (hb : Below (w.heap.size + 1 + 1 + 1) W W') (ho : Xp W' (w.heap.size + 1 + 1 + 1) z runT [] OA' oc' OS' os' OT' ot' r'') : RsX w args regs0 slots0 BA bl bc RA rc SA sc TA tc r z OA' oc' OS' os' OT' ot' r'' W' :=
  ⟨h.below.trans (hb.mono (by omega)), h.bf.below hb (by omega), h.bx.below hb (by omega), h.res.below hb (by omega), ho⟩

theorem RsX.start (args regs0 slots0 : Int) (BA : Option Addr) (bl bc : Nat) {W0 : World} (hb : Below w.heap.size w W0) (h0 : Row W0 w.heap.size 29 #[.int .i64 args, .int .i64 regs0, .int .i64 slots0, .slice BA bl bc]) (h1 : Row W0 (w.heap.size + 1) 54 #[.int .i64 r.st, .int .i64 (r.blk : Int), .int .i64 (r.pos : Int), .int .i64 r.val, .slice RA r.regs.length rc, .slice SA r.slots.length sc, .slice TA r.trace.length tc, .int .i64 (r.steps : Int)])
    (h2 : Row W0 (w.heap.size + 1 + 1) 54 #[.int .i64 0, .int .i64 0, .int .i64 0, .int .i64 0, .slice none 0 0, .slice none 0 0, .slice none 0 0, .int .i64 0]) (hv : XV W W0.heap.size OA oc OS os OT ot r) (hb1 : Below W0.heap.size W0 W) :
    RsX w args regs0 slots0 BA bl bc RA rc SA sc TA tc r W.heap.size OA oc OS os OT ot r (W.alloc (.cells #[.int .i64 r.st, .int .i64 (r.blk : Int), .int .i64 (r.pos : Int), .int .i64 r.val, .slice OA r.regs.length oc, .slice OS r.slots.length os, .slice OT r.trace.length ot, .int .i64 (r.steps : Int)] 54)) where
  below := (hb.trans (hb1.mono hb.size)).alloc (by have := hb.size; have := hb1.size; omega) _
  bf := (h0.below hb1 h0.lt).alloc _
  bx := (h1.below hb1 h1.lt).alloc _
  res := (h2.below hb1 h2.lt).alloc _
  ou := ⟨Row.new _ _ _, (hv.base h2.lt).below ((Below.refl _ _).alloc (Nat.le_refl _) _), by have := h2.lt; have := hb1.size; omega, by decide⟩

theorem RsX.emitS {xb g a : Nat} {T' : TypeId} {cs : Array Value} {x : Int} (h : RsX w args regs0 slots0 BA bl bc RA rc SA sc TA tc r z OA oc OS os OT ot r' W) (hx : Row W xb T' cs) (hT : 2 ≠ T') (hc : cs[2]? = some (.int .i64 (a : Int))) (hg : W.cell? ⟨g, a, none⟩ = some (.int .i64 x)) (hgl : g < w.heap.size) :
    (W.cell? ⟨w.heap.size + 1, 4, none⟩ = some (.slice RA r.regs.length rc) ∧ W.cell? ⟨xb, 2, none⟩ = some (.int .i64 (a : Int)) ∧ W.cell? ⟨g, a, none⟩ = some (.int .i64 x)) ∧ ((W.alloc (.cells #[.int .i64 x] 2)).cell? ⟨w.heap.size + 1, 4, none⟩ = some (.slice RA r.regs.length rc) ∧ (W.alloc (.cells #[.int .i64 x] 2)).cell? ⟨xb, 2, none⟩ = some (.int .i64 (a : Int)) ∧ (W.alloc (.cells #[.int .i64 x] 2)).cell? ⟨g, a, none⟩ = some (.int .i64 x)) ∧ ∀ W1, (W.alloc (.cells #[.int .i64 x] 2)).grownBy W1 (Value.slice OT r'.trace.length ot).ownBlock → (W1.cell? ⟨w.heap.size + 1, 4, none⟩ = some (.slice RA r.regs.length rc) ∧ W1.cell? ⟨xb, 2, none⟩ = some (.int .i64 (a : Int)) ∧ W1.cell? ⟨g, a, none⟩ = some (.int .i64 x)) ∧ ∀ u, (W1.setCell ⟨z, 6, none⟩ u).cell? ⟨w.heap.size + 1, 4, none⟩ = some (.slice RA r.regs.length rc) ∧ (W1.setCell ⟨z, 6, none⟩ u).cell? ⟨xb, 2, none⟩ = some (.int .i64 (a : Int)) ∧ (W1.setCell ⟨z, 6, none⟩ u).cell? ⟨g, a, none⟩ = some (.int .i64 x) := by
  have p4 : W.cell? ⟨w.heap.size + 1, 4, none⟩ = some (.slice RA r.regs.length rc) := h.bx.cell 4
  have p2 := (hx.cell 2).trans hc
  have hq := h.bx.lt
  have hh := hx.lt
  have hwl := h.below.size
  have hzl := h.ou.lt
  refine ⟨⟨p4, p2, hg⟩, ⟨(World.cell?_alloc_lt W _ ⟨w.heap.size + 1, 4, none⟩ hq).trans p4, (World.cell?_alloc_lt W _ ⟨xb, 2, none⟩ hh).trans p2, (World.cell?_alloc_lt W _ ⟨g, a, none⟩ (by show g < _; omega)).trans hg⟩, fun W1 hw => ?_⟩
  have hK : ∀ p : Addr, p.block < W.heap.size → (∀ k, (Value.slice OT r'.trace.length ot).ownBlock = some k → ¬ p.block = k) → W1.heap[p.block]? = W.heap[p.block]? := fun p hp hn =>
    (hw.block p.block (by simp; omega) fun e => hn _ e.symm rfl).trans (Below.heap_alloc W _ p.block hp)
  have k4 := (World.cell?_of_block (hK ⟨w.heap.size + 1, 4, none⟩ hq fun k hk e => by have := (ownS_lt h.ou.v.trace k hk).1; have e : w.heap.size + 1 = k := e; omega)).trans p4
  have k2 := (World.cell?_of_block (hK ⟨xb, 2, none⟩ hh fun k hk e => own_row_ne h.ou.v.trace hx hT k hk e.symm)).trans p2
  have kg := (World.cell?_of_block (hK ⟨g, a, none⟩ (by show g < _; omega) fun k hk e => by have := (ownS_lt h.ou.v.trace k hk).1; have e : g = k := e; omega)).trans hg
  refine ⟨⟨k4, k2, kg⟩, fun u => ⟨(World.cell?_setCell_other _ _ _ _ (by simp)).trans k4, ?_, (World.cell?_setCell_other _ _ _ _ (by intro e; injection e with e; omega)).trans kg⟩⟩
  by_cases e : (⟨z, 6, none⟩ : Addr) = ⟨xb, 2, none⟩
  · simp at e
  · exact (World.cell?_setCell_other _ _ _ _ e).trans k2

/-- The same with the instruction's box. -/
structure RxX (w : World) (args regs0 slots0 : Int) (BA : Option Addr) (bl bc : Nat) (RA : Option Addr) (rc : Nat) (SA : Option Addr) (sc : Nat) (TA : Option Addr) (tc : Nat) (r : Xn) (z : Nat) (OA : Option Addr) (oc : Nat) (OS : Option Addr) (os : Nat) (OT : Option Addr) (ot : Nat) (r' : Xn) (xb : Nat) (x : Mi) (W : World) : Prop where
  rs : RsX w args regs0 slots0 BA bl bc RA rc SA sc TA tc r z OA oc OS os OT ot r' W
  ix : Row W xb 69 #[.int .i64 x.op, .int .i64 x.d, .int .i64 x.a, .int .i64 x.b, .int .i64 x.imm, .int .i64 x.dst, .int .i64 x.src]

theorem RxX.next {xb : Nat} {x : Mi} (h : RxX w args regs0 slots0 BA bl bc RA rc SA sc TA tc r z OA oc OS os OT ot r' xb x W) (hb : Below W.heap.size W W') : RxX w args regs0 slots0 BA bl bc RA rc SA sc TA tc r z OA oc OS os OT ot r' xb x W' := ⟨h.rs.next hb, h.ix.below hb h.ix.lt⟩

theorem RxX.drewN {xb : Nat} {x : Mi} (h : RxX w args regs0 slots0 BA bl bc RA rc SA sc TA tc r z OA oc OS os OT ot r' xb x W) (n : Nat) : RxX w args regs0 slots0 BA bl bc RA rc SA sc TA tc r z OA oc OS os OT ot r' xb x (W.drewN n) := h.next (blw_drewN (Below.refl _ _) n)

theorem RxX.drew {xb : Nat} {x : Mi} (h : RxX w args regs0 slots0 BA bl bc RA rc SA sc TA tc r z OA oc OS os OT ot r' xb x W) : RxX w args regs0 slots0 BA bl bc RA rc SA sc TA tc r z OA oc OS os OT ot r' xb x W.drew := h.drewN 1

end

end Go.Proofs.Ytcoehkphdfejjaa
