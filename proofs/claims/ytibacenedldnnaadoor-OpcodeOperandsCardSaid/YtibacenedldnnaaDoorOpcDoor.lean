/-
  The rows' condition on the program's table of names: that the program's own initialisers meet it, and what it gives the walks.
-/
import Derived.Test.YtibacenedldnnaaDoorOpcMath
import Derived.ProofKit
import Derived.LaidMore
import Derived.OpenShut
import Derived.Stop.Joined
namespace Go.Proofs.YtibacenedldnnaaDoor
open Go.ChangeShapes Go.WideShapes Go.ChangeAt Go.WideMaps Go.WideElems Go.RowKit

theorem own : ownKnob Tryd.prog.godebug = none := by kernel_rfl
theorem laidOut : laidOutB Tryd.prog = true := by kernel_rfl

theorem door_met (os : Os) (args : Array Value) : laidMetH Tryd.prog Rows.opcodeOperandsRow.laid ((World.doorLaid Tryd.prog 14 os).forCall (fun _ _ => 0) ⟨#[], args, []⟩).memory :=
  laidMetH_of_parts3 (fuel := 8) (laidMet_of_run' 8 (by kernel_rfl) (by kernel_rfl)) (by kernel_rfl) (by kernel_rfl)

/-- The table, by the name that the statement itself lists. -/
def tabName : String := (Rows.opcodeOperandsRow.laid.map (·.1)).getD 0 default
theorem tab_of_laid {W : World} (h : laidMetH Tryd.prog Rows.opcodeOperandsRow.laid W) : Tab W := by
  rw [MakeChecks.laidMetH_plain _ _ _ (by kernel_rfl)] at h
  obtain ⟨ps, ⟨g', t', cs, fuel, p, q, hg', ht', hvar, hd, _, _⟩, _⟩ := h
  obtain rfl := Option.some.inj ((show Tryd.prog.globalNamed tabName = some 0 by kernel_rfl).symm.trans hg')
  obtain rfl := Option.some.inj ((show (Tryd.prog.globals[(0 : Nat)]?).map (·.type) = some 33 by kernel_rfl).symm.trans ht')
  have hcs := cells_of_strs Tryd.underlying33 Tryd.underlying9 (by kernel_rfl) (by kernel_rfl) (ls := nmL) hd
  unfold World.var? at hvar
  rw [hg'] at hvar
  simp only [Option.bind_some] at hvar
  unfold Tab
  cases hq : W.heap[(0 : Nat)]? with
  | none => rw [hq] at hvar; cases hvar
  | some o =>
    rw [hq] at hvar
    cases o with
    | cells c el fz =>
      simp only [Option.some.injEq] at hvar
      subst hvar
      have e : tabA = c := by
        apply Array.toList_inj.1
        rw [hcs]
        rfl
      exact ⟨el, fz, by rw [e]⟩
    | _ => cases hvar

end Go.Proofs.YtibacenedldnnaaDoor
