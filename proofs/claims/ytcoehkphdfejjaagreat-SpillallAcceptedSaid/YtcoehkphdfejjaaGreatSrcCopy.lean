/-
  The reference's Copy.
-/
import Derived.Test.YtcoehkphdfejjaaGreatPk1
import Derived.LoopTactic
import Derived.Deep.RegionWith
import Derived.Deep.RegionHeld3
import Derived.Deep.RegionHeldLaw
import Derived.Deep.DeepMust
namespace Go.Proofs.YtcoehkphdfejjaaGreat
open Go.RowKit
set_option linter.unusedVariables false
set_option linter.unusedSimpArgs false

theorem infoIn : (Tryz.prog.info? 44).map (fun i => (i.zero, i.size, i.bytes)) = some (some (.agg #[.int .i64 0, .int .i64 0, .int .i64 0, .int .i64 0, .int .i64 0]), 5, 40) := by kernel_rfl

theorem infoBlk : (Tryz.prog.info? 49).map (fun i => (i.zero, i.size, i.bytes)) = some (some (.agg #[.slice none 0 0, .int .i64 0, .int .i64 0, .int .i64 0, .int .i64 0]), 5, 56) := by kernel_rfl

/-- What Copy returns: the function, in memory of its own. -/
def CopyP (w : World) (args regs : Int) (bs : List Blk) (e : Ending) (w' : World) : Prop :=
  ∃ v vs, e = .returned (.agg #[.int .i64 args, .int .i64 regs, v]) ∧ NestV bshp w' w.heap.size v vs bs ∧ Below w.heap.size w w'

/-- What the loop carries: the boxes, and the blocks that are copied. -/
structure CopyS (w : World) (args regs : Int) (A : Option Addr) (bs : List Blk) (c k : Nat) (v : Value) (W : World) : Prop where
  below : Below w.heap.size w W
  box : Row W w.heap.size 24 #[.int .i64 args, .int .i64 regs, .slice A bs.length c]
  res : Row W (w.heap.size + 1) 24 #[.int .i64 0, .int .i64 0, .slice none 0 0]
  out : Row W (w.heap.size + 1 + 1) 24 #[.int .i64 args, .int .i64 regs, v]
  nest : ∃ vs, NestV bshp W (w.heap.size + 1 + 1 + 1) v vs (bs.take k)

theorem CopyS.start (w : World) (args regs : Int) (A : Option Addr) (bs : List Blk) (c : Nat) :
    CopyS w args regs A bs c 0 (.slice none 0 0) (((w.alloc (.cells #[.int .i64 args, .int .i64 regs, .slice A bs.length c] 24)).alloc (.cells #[.int .i64 0, .int .i64 0, .slice none 0 0] 24)).alloc (.cells #[.int .i64 args, .int .i64 regs, .slice none 0 0] 24)) where
  below := (((Below.refl w.heap.size w).alloc (Nat.le_refl _) _).alloc (by simp) _).alloc (by simp; omega) _
  box := ((Row.new w _ _).alloc _).alloc _
  res := (Row.new' (p := w.heap.size + 1) (by simp) _ _).alloc _
  out := Row.new' (p := w.heap.size + 1 + 1) (by simp) _ _
  nest := ⟨[], by rw [List.take_zero]; exact NestV.nil _ _⟩

theorem CopyS.step {w wr W : World} {args regs : Int} {A : Option Addr} {bs : List Blk} {c k : Nat} {v v' : Value} (h : CopyS w args regs A bs c k v wr) (hb : Below (w.heap.size + 1 + 1 + 1) wr W) (hn : ∃ vs, NestV bshp W (w.heap.size + 1 + 1 + 1) v' vs (bs.take (k + 1))) :
    CopyS w args regs A bs c (k + 1) v' (W.setCell ⟨w.heap.size + 1 + 1, 2, none⟩ v') where
  below := by
    refine (h.below.trans (hb.mono (by omega))).setCell ?_ _
    show w.heap.size ≤ w.heap.size + 1 + 1
    omega
  box := (h.box.below hb (by omega)).far (by show w.heap.size ≠ w.heap.size + 1 + 1; omega) _
  res := (h.res.below hb (by omega)).far (by show w.heap.size + 1 ≠ w.heap.size + 1 + 1; omega) _
  out := (h.out.below hb (by omega)).put 2 v'
  nest := by
    obtain ⟨vs, hn⟩ := hn
    exact ⟨vs, hn.mods ((Mods.refl (Is (w.heap.size + 1 + 1)) W).put 2 v') fun k h1 _ h2 => by
      unfold Is at h2
      omega⟩

theorem oc_one (y : Blk) (A : Option Addr) (n c : Nat) : ∀ u ∈ bshp.oc (.slice A n c) y, u.oneCell' = true := by
  intro u hu
  simp only [bshp, List.mem_cons, List.not_mem_nil, or_false] at hu
  rcases hu with rfl | rfl | rfl | rfl | rfl <;> rfl

/-- What a round reads stays as it is below the copy's blocks. -/
theorem copy_keep {w wr W : World} {b o n c k c1 m : Nat} {A1 : Option Addr} {t0 t1 t2 t3 : Int} (hbl : b < w.heap.size) (hb : Below (w.heap.size + 1) wr W)
    (h : wr.cell? ⟨w.heap.size, 2, none⟩ = some (.slice (some ⟨b, o, none⟩) n c) ∧ wr.cell? ⟨b, o + k * 5, none⟩ = some (.slice A1 m c1) ∧ wr.cell? ⟨b, o + k * 5 + 1, none⟩ = some (.int .i64 t0) ∧ wr.cell? ⟨b, o + k * 5 + 2, none⟩ = some (.int .i64 t1) ∧ wr.cell? ⟨b, o + k * 5 + 3, none⟩ = some (.int .i64 t2) ∧ wr.cell? ⟨b, o + k * 5 + 4, none⟩ = some (.int .i64 t3)) :
    W.cell? ⟨w.heap.size, 2, none⟩ = some (.slice (some ⟨b, o, none⟩) n c) ∧ W.cell? ⟨b, o + k * 5, none⟩ = some (.slice A1 m c1) ∧ W.cell? ⟨b, o + k * 5 + 1, none⟩ = some (.int .i64 t0) ∧ W.cell? ⟨b, o + k * 5 + 2, none⟩ = some (.int .i64 t1) ∧ W.cell? ⟨b, o + k * 5 + 3, none⟩ = some (.int .i64 t2) ∧ W.cell? ⟨b, o + k * 5 + 4, none⟩ = some (.int .i64 t3) := by
  obtain ⟨h1, h2, h3, h4, h5, h6⟩ := h
  have e := fun q (hq : q < w.heap.size + 1) i => hb.cell (p := ⟨q, i, none⟩) hq
  exact ⟨(e _ (by omega) _).trans h1, (e _ (by omega) _).trans h2, (e _ (by omega) _).trans h3, (e _ (by omega) _).trans h4, (e _ (by omega) _).trans h5, (e _ (by omega) _).trans h6⟩

end Go.Proofs.YtcoehkphdfejjaaGreat
