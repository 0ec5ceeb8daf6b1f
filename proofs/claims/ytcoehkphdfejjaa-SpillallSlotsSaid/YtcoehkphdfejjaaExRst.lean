/-
  The reference's Start of layer 10 (its region is written by wip/lab/genxrst.py).
-/
import Derived.Test.YtcoehkphdfejjaaPk9
import Derived.Test.YtcoehkphdfejjaaPk1
import Derived.Deep.LoopGhost
import Derived.LoopTactic
import Derived.Deep.Cut
import Derived.Deep.CutRange
namespace Go.Proofs.Ytcoehkphdfejjaa
open Go.RowKit
set_option linter.unusedVariables false
set_option linter.unusedSimpArgs false

/-- What the loop carries: the boxes, the run with the slots l so far. -/
structure RxS (w : World) (args regs slots : Int) (FA : Option Addr) (bl bc : Nat) (p n : Nat) (GA : Option Addr) (gc : Nat) (l : List Int) (v : Value) (W : World) : Prop where
  below : Below w.heap.size w W
  lt : w.heap.size + 1 < p
  box : Row W w.heap.size 29 #[.int .i64 args, .int .i64 regs, .int .i64 slots, .slice FA bl bc]
  res : Row W (w.heap.size + 1) 54 #[.int .i64 0, .int .i64 0, .int .i64 0, .int .i64 0, .slice none 0 0, .slice none 0 0, .slice none 0 0, .int .i64 0]
  out : Row W p 54 #[.int .i64 0, .int .i64 0, .int .i64 0, .int .i64 0, .slice GA n gc, v, .slice none 0 0, .int .i64 0]
  own : W.ownsRow (w.heap.size + 1 + 1) 2 1 v l.length (ints l)
  ownR : W.ownsRow (w.heap.size + 1 + 1) 2 1 (.slice GA n gc) n (ints (List.replicate n 0))
  ne : ∀ k, (Value.slice GA n gc).ownBlock = some k → v.ownBlock = some k → False

/-- What the region carries: the boxes and the arguments. -/
structure RB (w : World) (args regs slots : Int) (FA : Option Addr) (bl bc : Nat) (AA : Option Addr) (l : List Int) (V : World) : Prop where
  below : Below w.heap.size w V
  box : Row V w.heap.size 29 #[.int .i64 args, .int .i64 regs, .int .i64 slots, .slice FA bl bc]
  res : Row V (w.heap.size + 1) 54 #[.int .i64 0, .int .i64 0, .int .i64 0, .int .i64 0, .slice none 0 0, .slice none 0 0, .slice none 0 0, .int .i64 0]
  sees : Sees V (w.heap.size + 1 + 1) AA (ints l)
  lt : w.heap.size + 1 + 1 ≤ V.heap.size

theorem RB.next {w V V' : World} {args regs slots : Int} {FA : Option Addr} {bl bc : Nat} {AA : Option Addr} {l : List Int} (h : RB w args regs slots FA bl bc AA l V) (hb : Below (w.heap.size + 1 + 1) V V') : RB w args regs slots FA bl bc AA l V' :=
  ⟨h.below.trans (hb.mono (by omega)), h.box.below hb (by omega), h.res.below hb (by omega), h.sees.below hb, Nat.le_trans h.lt hb.size⟩

theorem RB.fin {w V : World} {args regs slots : Int} {FA : Option Addr} {bl bc n m p : Nat} {AA GA A1 : Option Addr} {gc c1 : Nat} {l : List Int} (h : RB w args regs slots FA bl bc AA l V) (hg : V.ownsRow (w.heap.size + 1 + 1) 2 1 (.slice GA n gc) n (ints (List.replicate n 0))) (ha : V.ownsRow (w.heap.size + 1 + 1) 2 1 (.slice A1 m c1) l.length (ints l)) (hp : Row V p 54 #[.int .i64 0, .int .i64 0, .int .i64 0, .int .i64 0, .slice none 0 0, .slice none 0 0, .slice none 0 0, .int .i64 0])
    (hn : ∀ k, (Value.slice GA n gc).ownBlock = some k → (Value.slice A1 m c1).ownBlock = some k → False) (hq : w.heap.size + 1 < p) :
    RxS w args regs slots FA bl bc p n GA gc l (.slice A1 m c1) ((((((((V.setCell ⟨p, 0, none⟩ (.int .i64 0)).setCell ⟨p, 1, none⟩ (.int .i64 0)).setCell ⟨p, 2, none⟩ (.int .i64 0)).setCell ⟨p, 3, none⟩ (.int .i64 0)).setCell ⟨p, 4, none⟩ (.slice GA n gc)).setCell ⟨p, 5, none⟩ (.slice A1 m c1)).setCell ⟨p, 6, none⟩ (.slice none 0 0)).setCell ⟨p, 7, none⟩ (.int .i64 0)) where
  below := blw8 (by omega) h.below _ _ _ _ _ _ _ _
  lt := hq
  box := h.box.mods (mods8 V p _ _ _ _ _ _ _ _) (by unfold Is; omega)
  res := h.res.mods (mods8 V p _ _ _ _ _ _ _ _) (by unfold Is; omega)
  out := hp.put8 _ _ _ _ _ _ _ _
  own := (mods8 V p _ _ _ _ _ _ _ _).ownS ha fun k hk hs => own_row_ne ha hp (by decide) k hk hs
  ownR := (mods8 V p _ _ _ _ _ _ _ _).ownS hg fun k hk hs => own_row_ne hg hp (by decide) k hk hs
  ne := hn

theorem RxS.step {w wr W : World} {args regs slots : Int} {FA : Option Addr} {bl bc p n : Nat} {GA : Option Addr} {gc : Nat} {l l' : List Int} {v v' : Value} (h : RxS w args regs slots FA bl bc p n GA gc l v wr) (o : Obj) (hg : (wr.alloc o).grownBy W v.ownBlock) (ho : W.ownsRow (w.heap.size + 1 + 1) 2 1 v' l'.length (ints l')) (ha : v'.ownBlock = v.ownBlock ∨ v'.ownBlock = some (wr.alloc o).heap.size) :
    Row W p 54 #[.int .i64 0, .int .i64 0, .int .i64 0, .int .i64 0, .slice GA n gc, v, .slice none 0 0, .int .i64 0] ∧ RxS w args regs slots FA bl bc p n GA gc l' v' (W.setCell ⟨p, 5, none⟩ v') := by
  have hne := own_row_ne h.own h.out (by decide)
  have hlt := h.lt
  have hb : Below (w.heap.size + 1 + 1) wr W := ((Below.refl _ wr).alloc (by have := h.out.lt; omega) o).grown hg (by have := h.out.lt; simp; omega) fun k hk => (ownS_lt h.own k hk).1
  have hr : Row W p 54 #[.int .i64 0, .int .i64 0, .int .i64 0, .int .i64 0, .slice GA n gc, v, .slice none 0 0, .int .i64 0] :=
    (hg.block p (by have := h.out.lt; simp; omega) fun e => hne p e.symm rfl).trans (h.out.alloc o)
  have hne2 := own_row_ne ho hr (by decide)
  have hmd : Mods (fun k => v.ownBlock = some k) wr W := ⟨hg.os, hg.tape, hg.output, Nat.le_trans (by simp) hg.size, fun k hk hn => (hg.block k (by simp; omega) fun e => hn e.symm).trans (Below.heap_alloc wr o k hk)⟩
  have hR := hmd.ownS h.ownR fun k hk hs => h.ne k hk hs
  have hner := own_row_ne hR hr (by decide)
  refine ⟨hr, (h.below.trans (hb.mono (by omega))).setCell (by show _ ≤ p; omega) _, h.lt, (h.box.below hb (by omega)).far (by show _ ≠ p; omega) _, (h.res.below hb (by omega)).far (by show _ ≠ p; omega) _, hr.put 5 v', ((Mods.refl (Is p) W).put 5 v').ownS ho fun k hk hs => hne2 k hk hs, ((Mods.refl (Is p) W).put 5 v').ownS hR fun k hk hs => hner k hk hs, fun k h1 h2 => ?_⟩
  rcases ha with ha | ha
  · exact h.ne k h1 (ha ▸ h2)
  · rw [ha] at h2
    have := (ownS_lt h.ownR k h1).2
    simp at h2
    omega

end Go.Proofs.Ytcoehkphdfejjaa
