/-
  The machine reference's Copy (written by wip/lab/genmcopy.py).
-/
import Derived.Test.YthehcdajedaefaaPk3
import Derived.Test.YthehcdajedaefaaPk1
import Derived.LoopTactic
import Derived.Deep.RegionWith
import Derived.Deep.RegionHeld3
import Derived.Deep.RegionHeldLaw
import Derived.Deep.DeepMust
namespace Go.Proofs.Ythehcdajedaefaa
open Go.RowKit
set_option linter.unusedVariables false
set_option linter.unusedSimpArgs false

theorem sees_misAt {w : World} {B : Nat} {A : Option Addr} {xs : List Mi} (h : MisAt w B A xs) : Sees w B A (flatM xs) := fun hn => by
  obtain ⟨b, o, e, hb, hc⟩ := h (by rintro rfl; exact hn rfl)
  refine ⟨b, o, e, hb, fun i u hu => ?_⟩
  obtain ⟨k, j, x, h1, h2, rfl⟩ := flat_inv Mi.cells 7 (fun _ => rfl) xs i u hu
  have hx := hc k x h1
  have hj : j < 7 := (List.getElem?_eq_some_iff.1 h2).1
  rcases (by omega : j = 0 ∨ j = 1 ∨ j = 2 ∨ j = 3 ∨ j = 4 ∨ j = 5 ∨ j = 6) with rfl | rfl | rfl | rfl | rfl | rfl | rfl
  · rw [← h2]; exact hx.c0
  · rw [← h2, ← Nat.add_assoc]; exact hx.c1
  · rw [← h2, ← Nat.add_assoc]; exact hx.c2
  · rw [← h2, ← Nat.add_assoc]; exact hx.c3
  · rw [← h2, ← Nat.add_assoc]; exact hx.c4
  · rw [← h2, ← Nat.add_assoc]; exact hx.c5
  · rw [← h2, ← Nat.add_assoc]; exact hx.c6

/-- What a round reads stays as it is below the copy's blocks. -/
theorem mcopy_keep {w wr W : World} {b o n c k c1 m : Nat} {A1 : Option Addr} {t0 t1 t2 t3 : Int} (hbl : b < w.heap.size) (hb : Below (w.heap.size + 1) wr W)
    (h : wr.cell? ⟨w.heap.size, 3, none⟩ = some (.slice (some ⟨b, o, none⟩) n c) ∧ wr.cell? ⟨b, o + k * 5, none⟩ = some (.slice A1 m c1) ∧ wr.cell? ⟨b, o + k * 5 + 1, none⟩ = some (.int .i64 t0) ∧ wr.cell? ⟨b, o + k * 5 + 2, none⟩ = some (.int .i64 t1) ∧ wr.cell? ⟨b, o + k * 5 + 3, none⟩ = some (.int .i64 t2) ∧ wr.cell? ⟨b, o + k * 5 + 4, none⟩ = some (.int .i64 t3)) :
    W.cell? ⟨w.heap.size, 3, none⟩ = some (.slice (some ⟨b, o, none⟩) n c) ∧ W.cell? ⟨b, o + k * 5, none⟩ = some (.slice A1 m c1) ∧ W.cell? ⟨b, o + k * 5 + 1, none⟩ = some (.int .i64 t0) ∧ W.cell? ⟨b, o + k * 5 + 2, none⟩ = some (.int .i64 t1) ∧ W.cell? ⟨b, o + k * 5 + 3, none⟩ = some (.int .i64 t2) ∧ W.cell? ⟨b, o + k * 5 + 4, none⟩ = some (.int .i64 t3) := by
  obtain ⟨h1, h2, h3, h4, h5, h6⟩ := h
  have e := fun q (hq : q < w.heap.size + 1) i => hb.cell (p := ⟨q, i, none⟩) hq
  exact ⟨(e _ (by omega) _).trans h1, (e _ (by omega) _).trans h2, (e _ (by omega) _).trans h3, (e _ (by omega) _).trans h4, (e _ (by omega) _).trans h5, (e _ (by omega) _).trans h6⟩

end Go.Proofs.Ythehcdajedaefaa
