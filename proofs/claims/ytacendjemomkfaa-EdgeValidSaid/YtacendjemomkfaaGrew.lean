/-
  Steps that draw and lay blocks, and turn nothing.
-/
import Derived.Test.YtacendjemomkfaaMem
import Derived.Deep.RegionHeld3
import Derived.Shelf.SlSortCmp.QuietGrown
import Derived.Lib.Small
import Derived.Deep.Cut
import Derived.Deep.CutRange
import Derived.Deep.DeepMust
namespace Go.Proofs.Ytacendjemomkfaa
open Go.RowKit
set_option linter.unusedVariables false

/-- A step that draws and lays blocks, and turns nothing. -/
def Grew (w w' : World) : Prop := ∃ n os, w' = Go.Sort.grow (w.drewN n) os

theorem Grew.refl (w : World) : Grew w w := ⟨0, #[], by rw [Go.Sort.grow_empty]; rfl⟩
theorem Grew.drewN {w w' : World} (h : Grew w w') (k : Nat) : Grew w (w'.drewN k) := by
  obtain ⟨n, os, rfl⟩ := h
  exact ⟨n + k, os, by rw [← World.drewN_drewN]; rfl⟩
theorem Grew.drew {w w' : World} (h : Grew w w') : Grew w w'.drew := h.drewN 1
theorem Grew.alloc {w w' : World} (h : Grew w w') (o : Obj) : Grew w (w'.alloc o) := by
  obtain ⟨n, os, rfl⟩ := h
  exact ⟨n, os ++ #[o], by rw [Go.Sort.alloc_eq_grow, Go.Sort.grow_grow]⟩
theorem Grew.trans {w w' w'' : World} (h : Grew w w') (k : Grew w' w'') : Grew w w'' := by
  obtain ⟨n, os, rfl⟩ := h
  obtain ⟨m, ot, rfl⟩ := k
  exact ⟨n + m, os ++ ot, by
    rw [← Go.Sort.grow_grow, ← World.drewN_drewN]
    rfl⟩
theorem Grew.below {w w' : World} (h : Grew w w') : Below w.heap.size w w' := by
  obtain ⟨n, os, rfl⟩ := h
  exact ⟨rfl, rfl, rfl, by simp [Go.Sort.grow, World.drewN], fun k hk => by simp [Go.Sort.grow, World.drewN, Array.getElem?_append, hk]⟩
theorem Grew.cell {w w' : World} (h : Grew w w') {p : Addr} {v : Value} (hc : w.cell? p = some v) : w'.cell? p = some v := by
  obtain ⟨n, os, rfl⟩ := h
  exact Go.cell_grown (World.block_lt_of_cell? w _ hc) hc n os

theorem Grew.row {w w' : World} (h : Grew w w') {p : Nat} {T : TypeId} {cs : Array Value} (hr : Row w p T cs) : Row w' p T cs := hr.below h.below hr.lt
theorem Grew.frozen {w w' : World} (h : Grew w w') {p : Nat} {T : TypeId} {cs : Array Value} (hr : Row w p T cs) (i : Nat) : w'.frozen? ⟨p, i, none⟩ = false := (h.row hr).frozen i

end Go.Proofs.Ytacendjemomkfaa
