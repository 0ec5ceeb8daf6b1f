/-
  The program's perform at an emit (written by wip/lab/genperf.py).
-/
import Derived.Test.YtabebkkicpcjcaaRunIp
import Derived.Test.YtabebkkicpcjcaaSrcCopy
namespace Go.Proofs.Ytabebkkicpcjcaa
open Go.RowKit
set_option linter.unusedVariables false
set_option linter.unusedSimpArgs false

theorem keepS {W1 : World} {q g h a n rc : Nat} {x : Int} {u : Value} (h0 : W1.cell? ⟨q, 4, none⟩ = some (.slice (some ⟨g, 0, none⟩) n rc) ∧ W1.cell? ⟨h, 2, none⟩ = some (.int .i64 (a : Int)) ∧ W1.cell? ⟨g, a, none⟩ = some (.int .i64 x)) (hn : ¬ g = q ∧ ¬ h = q) :
    (W1.setCell ⟨q, 6, none⟩ u).cell? ⟨q, 4, none⟩ = some (.slice (some ⟨g, 0, none⟩) n rc) ∧ (W1.setCell ⟨q, 6, none⟩ u).cell? ⟨h, 2, none⟩ = some (.int .i64 (a : Int)) ∧ (W1.setCell ⟨q, 6, none⟩ u).cell? ⟨g, a, none⟩ = some (.int .i64 x) :=
  ⟨(World.cell?_setCell_other _ _ _ _ (by simp)).trans h0.1, (World.cell?_setCell_other _ _ _ _ (by simp [hn.2])).trans h0.2.1, (World.cell?_setCell_other _ _ _ _ (by simp [hn.1])).trans h0.2.2⟩

end Go.Proofs.Ytabebkkicpcjcaa
