/-
  The machine reference's Copy (written by wip/lab/genmcopy.py).
-/
import Derived.Test.YtcoehkphdfejjaaMacOwn
import Derived.Test.YtcoehkphdfejjaaPk1
import Derived.LoopTactic
import Derived.Deep.RegionWith
import Derived.Deep.RegionHeld3
import Derived.Deep.RegionHeldLaw
import Derived.Deep.DeepMust
namespace Go.Proofs.Ytcoehkphdfejjaa
open Go.RowKit
set_option linter.unusedVariables false
set_option linter.unusedSimpArgs false

theorem infoMi : (Try.prog.info? 69).map (fun i => (i.zero, i.size, i.bytes)) = some (some (.agg #[.int .i64 0, .int .i64 0, .int .i64 0, .int .i64 0, .int .i64 0, .int .i64 0, .int .i64 0]), 7, 56) := by kernel_rfl

theorem infoMB : (Try.prog.info? 49).map (fun i => (i.zero, i.size, i.bytes)) = some (some (.agg #[.slice none 0 0, .int .i64 0, .int .i64 0, .int .i64 0, .int .i64 0]), 5, 56) := by kernel_rfl

/-- Machine blocks as such elements. -/
def mshp : Shp MBlk where
  eo := 49
  ei := 69
  so := 5
  si := 7
  oc := fun u x => [u, .int .i64 x.term.kind, .int .i64 x.term.a, .int .i64 x.term.to, .int .i64 x.term.el]
  ic := fun x => flatM x.code
  il := fun x => x.code.length
  ne := by decide
  hoc := fun _ _ => rfl

theorem sees_misAt {w : World} {B : Nat} {A : Option Addr} {xs : List Mi} (h : MisAt w B A xs) : Sees w B A (flatM xs) := fun hn => by
  obtain ⟨b, o, e, hb, hc⟩ := h (by rintro rfl; exact hn rfl)
  refine ⟨b, o, e, hb, fun i u hu => ?_⟩
  obtain ⟨k, j, x, h1, h2, rfl⟩ := flat_inv Mi.cells 7 (fun _ => rfl) xs i u hu
  have hx := hc k x h1
  have hj : j < 7 := (List.getElem?_eq_some_iff.1 h2).1
  rcases (by omega : j = 0 ∨ j = 1 ∨ j = 2 ∨ j = 3 ∨ j = 4 ∨ j = 5 ∨ j = 6) with rfl | rfl | rfl | rfl | rfl | rfl | rfl
  · rw [← h2]; exact hx.c0
  · rw [← h2, ← Nat.add_assoc]; exact hx.c1
  · rw [← h2, ← Nat.add_assoc]; exact hx.c2
  · rw [← h2, ← Nat.add_assoc]; exact hx.c3
  · rw [← h2, ← Nat.add_assoc]; exact hx.c4
  · rw [← h2, ← Nat.add_assoc]; exact hx.c5
  · rw [← h2, ← Nat.add_assoc]; exact hx.c6

/-- What Copy returns: the function, in memory of its own. -/
def MCopyP (w : World) (args regs slots : Int) (bs : List MBlk) (e : Ending) (w' : World) : Prop :=
  ∃ v vs, e = .returned (.agg #[.int .i64 args, .int .i64 regs, .int .i64 slots, v]) ∧ NestV mshp w' w.heap.size v vs bs ∧ Below w.heap.size w w'

/-- What the loop carries: the boxes, and the blocks that are copied. -/
structure MCopyS (w : World) (args regs slots : Int) (A : Option Addr) (bs : List MBlk) (c k : Nat) (v : Value) (W : World) : Prop where
  below : Below w.heap.size w W
  box : Row W w.heap.size 29 #[.int .i64 args, .int .i64 regs, .int .i64 slots, .slice A bs.length c]
  res : Row W (w.heap.size + 1) 29 #[.int .i64 0, .int .i64 0, .int .i64 0, .slice none 0 0]
  out : Row W (w.heap.size + 1 + 1) 29 #[.int .i64 args, .int .i64 regs, .int .i64 slots, v]
  nest : ∃ vs, NestV mshp W (w.heap.size + 1 + 1 + 1) v vs (bs.take k)

theorem MCopyS.start (w : World) (args regs slots : Int) (A : Option Addr) (bs : List MBlk) (c : Nat) :
    MCopyS w args regs slots A bs c 0 (.slice none 0 0) (((w.alloc (.cells #[.int .i64 args, .int .i64 regs, .int .i64 slots, .slice A bs.length c] 29)).alloc (.cells #[.int .i64 0, .int .i64 0, .int .i64 0, .slice none 0 0] 29)).alloc (.cells #[.int .i64 args, .int .i64 regs, .int .i64 slots, .slice none 0 0] 29)) where
  below := (((Below.refl w.heap.size w).alloc (Nat.le_refl _) _).alloc (by simp) _).alloc (by simp; omega) _
  box := ((Row.new w _ _).alloc _).alloc _
  res := (Row.new' (p := w.heap.size + 1) (by simp) _ _).alloc _
  out := Row.new' (p := w.heap.size + 1 + 1) (by simp) _ _
  nest := ⟨[], by rw [List.take_zero]; exact NestV.nil _ _⟩

theorem MCopyS.step {w wr W : World} {args regs slots : Int} {A : Option Addr} {bs : List MBlk} {c k : Nat} {v v' : Value} (h : MCopyS w args regs slots A bs c k v wr) (hb : Below (w.heap.size + 1 + 1 + 1) wr W) (hn : ∃ vs, NestV mshp W (w.heap.size + 1 + 1 + 1) v' vs (bs.take (k + 1))) :
    MCopyS w args regs slots A bs c (k + 1) v' (W.setCell ⟨w.heap.size + 1 + 1, 3, none⟩ v') where
  below := by
    refine (h.below.trans (hb.mono (by omega))).setCell ?_ _
    show w.heap.size ≤ w.heap.size + 1 + 1
    omega
  box := (h.box.below hb (by omega)).far (by show w.heap.size ≠ w.heap.size + 1 + 1; omega) _
  res := (h.res.below hb (by omega)).far (by show w.heap.size + 1 ≠ w.heap.size + 1 + 1; omega) _
  out := (h.out.below hb (by omega)).put 3 v'
  nest := by
    obtain ⟨vs, hn⟩ := hn
    exact ⟨vs, hn.mods ((Mods.refl (Is (w.heap.size + 1 + 1)) W).put 3 v') fun k h1 _ h2 => by
      unfold Is at h2
      omega⟩

theorem moc_one (y : MBlk) (A : Option Addr) (n c : Nat) : ∀ u ∈ mshp.oc (.slice A n c) y, u.oneCell' = true := by
  intro u hu
  simp only [mshp, List.mem_cons, List.not_mem_nil, or_false] at hu
  rcases hu with rfl | rfl | rfl | rfl | rfl <;> rfl

/-- What a round reads stays as it is below the copy's blocks. -/
theorem mcopy_keep {w wr W : World} {b o n c k c1 m : Nat} {A1 : Option Addr} {t0 t1 t2 t3 : Int} (hbl : b < w.heap.size) (hb : Below (w.heap.size + 1) wr W)
    (h : wr.cell? ⟨w.heap.size, 3, none⟩ = some (.slice (some ⟨b, o, none⟩) n c) ∧ wr.cell? ⟨b, o + k * 5, none⟩ = some (.slice A1 m c1) ∧ wr.cell? ⟨b, o + k * 5 + 1, none⟩ = some (.int .i64 t0) ∧ wr.cell? ⟨b, o + k * 5 + 2, none⟩ = some (.int .i64 t1) ∧ wr.cell? ⟨b, o + k * 5 + 3, none⟩ = some (.int .i64 t2) ∧ wr.cell? ⟨b, o + k * 5 + 4, none⟩ = some (.int .i64 t3)) :
    W.cell? ⟨w.heap.size, 3, none⟩ = some (.slice (some ⟨b, o, none⟩) n c) ∧ W.cell? ⟨b, o + k * 5, none⟩ = some (.slice A1 m c1) ∧ W.cell? ⟨b, o + k * 5 + 1, none⟩ = some (.int .i64 t0) ∧ W.cell? ⟨b, o + k * 5 + 2, none⟩ = some (.int .i64 t1) ∧ W.cell? ⟨b, o + k * 5 + 3, none⟩ = some (.int .i64 t2) ∧ W.cell? ⟨b, o + k * 5 + 4, none⟩ = some (.int .i64 t3) := by
  obtain ⟨h1, h2, h3, h4, h5, h6⟩ := h
  have e := fun q (hq : q < w.heap.size + 1) i => hb.cell (p := ⟨q, i, none⟩) hq
  exact ⟨(e _ (by omega) _).trans h1, (e _ (by omega) _).trans h2, (e _ (by omega) _).trans h3, (e _ (by omega) _).trans h4, (e _ (by omega) _).trans h5, (e _ (by omega) _).trans h6⟩

end Go.Proofs.Ytcoehkphdfejjaa
