/-
  The reference's Copy.
-/
import Derived.Test.YthehcdajedaefaaPk2
import Derived.Test.YthehcdajedaefaaPk3
import Derived.Test.YthehcdajedaefaaPk1
import Derived.LoopTactic
import Derived.Deep.RegionWith
import Derived.Deep.RegionHeld3
import Derived.Deep.RegionHeldLaw
import Derived.Deep.DeepMust
namespace Go.Proofs.Ythehcdajedaefaa
open Go.RowKit
set_option linter.unusedVariables false
set_option linter.unusedSimpArgs false

/-- What a round reads stays as it is below the copy's blocks. -/
theorem copy_keep {w wr W : World} {b o n c k c1 m : Nat} {A1 : Option Addr} {t0 t1 t2 t3 : Int} (hbl : b < w.heap.size) (hb : Below (w.heap.size + 1) wr W)
    (h : wr.cell? ⟨w.heap.size, 2, none⟩ = some (.slice (some ⟨b, o, none⟩) n c) ∧ wr.cell? ⟨b, o + k * 5, none⟩ = some (.slice A1 m c1) ∧ wr.cell? ⟨b, o + k * 5 + 1, none⟩ = some (.int .i64 t0) ∧ wr.cell? ⟨b, o + k * 5 + 2, none⟩ = some (.int .i64 t1) ∧ wr.cell? ⟨b, o + k * 5 + 3, none⟩ = some (.int .i64 t2) ∧ wr.cell? ⟨b, o + k * 5 + 4, none⟩ = some (.int .i64 t3)) :
    W.cell? ⟨w.heap.size, 2, none⟩ = some (.slice (some ⟨b, o, none⟩) n c) ∧ W.cell? ⟨b, o + k * 5, none⟩ = some (.slice A1 m c1) ∧ W.cell? ⟨b, o + k * 5 + 1, none⟩ = some (.int .i64 t0) ∧ W.cell? ⟨b, o + k * 5 + 2, none⟩ = some (.int .i64 t1) ∧ W.cell? ⟨b, o + k * 5 + 3, none⟩ = some (.int .i64 t2) ∧ W.cell? ⟨b, o + k * 5 + 4, none⟩ = some (.int .i64 t3) := by
  obtain ⟨h1, h2, h3, h4, h5, h6⟩ := h
  have e := fun q (hq : q < w.heap.size + 1) i => hb.cell (p := ⟨q, i, none⟩) hq
  exact ⟨(e _ (by omega) _).trans h1, (e _ (by omega) _).trans h2, (e _ (by omega) _).trans h3, (e _ (by omega) _).trans h4, (e _ (by omega) _).trans h5, (e _ (by omega) _).trans h6⟩

end Go.Proofs.Ythehcdajedaefaa
