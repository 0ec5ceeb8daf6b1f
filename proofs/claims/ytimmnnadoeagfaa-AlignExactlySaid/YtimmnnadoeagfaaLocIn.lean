/-
  The program's and the reference's InRange of layer 4, without its texts (for seats that read no table).
-/
import Derived.Test.YtimmnnadoeagfaaBase
import Derived.LoopTactic
import Derived.Below
namespace Go.Proofs.Ytimmnnadoeagfaa
open Go.RowKit
set_option linter.unusedVariables false

/-- Whether a location is in range. -/
def locS (l r s : Int) : Bool := if l < 0 then false else if l % 2 = 1 then decide (l / 2 < s) else decide (l / 2 < r)
theorem locS_nn {l r s : Int} (h : locS l r s = true) : 0 ≤ l := by
  unfold locS at h
  by_cases h0 : l < 0
  · rw [if_pos h0] at h; cases h
  · omega
/-- A number that fits. -/
def Fits (l : Int) : Prop := -9223372036854775808 ≤ l ∧ l ≤ 9223372036854775807

end Go.Proofs.Ytimmnnadoeagfaa
