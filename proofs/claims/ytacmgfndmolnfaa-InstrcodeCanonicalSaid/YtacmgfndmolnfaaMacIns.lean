/-
  The program's functions on one instruction: isMove, extend, moveError, otherError, the finder and its two functions, Instr.
-/
import Derived.Test.YtacmgfndmolnfaaPk1
import Derived.Test.YtacmgfndmolnfaaSrcIns
import Derived.Laws.EntriesVeiled
namespace Go.Proofs.Ytacmgfndmolnfaa
open Go.RowKit
set_option linter.unusedVariables false

/-- The first field of a move that is not 0. -/
theorem zf_ways (x : Mi) : (x.zf = true ∧ ((x.d != 0) = true ∨ ((x.d != 0) = false ∧ ((x.a != 0) = true ∨ ((x.a != 0) = false ∧ ((x.b != 0) = true ∨ ((x.b != 0) = false ∧ (x.imm != 0) = true))))))) ∨
    (x.zf = false ∧ (x.d != 0) = false ∧ (x.a != 0) = false ∧ (x.b != 0) = false ∧ (x.imm != 0) = false) := by
  unfold Mi.zf
  cases (x.d != 0) <;> cases (x.a != 0) <;> cases (x.b != 0) <;> cases (x.imm != 0) <;> decide

end Go.Proofs.Ytacmgfndmolnfaa
