/-
  Blocks of instructions and of machine instructions as they come in.
-/
import Derived.Test.YtimmnnadoeagfaaAlMem
import Derived.Test.YtimmnnadoeagfaaSrcIn
import Derived.Test.YtimmnnadoeagfaaMacIn
namespace Go.Proofs.Ytimmnnadoeagfaa
open Go.RowKit Go.ChangeShapes Go.WideShapes Go.Deep
set_option linter.unusedVariables false

section
variable {H : Type} {enc : TypeId × Value → H} {w : World} {base : Nat} {spare : Nat → Bool} {held : Bool} {fuel : Nat}
/-- A source block that came in. -/
def IsIns (w : World) (a : Option Addr) (len cap : Nat) : Prop := ∃ l : List In, (∀ y ∈ l, y.Wf) ∧ CS w a len cap l
theorem IsIns.of {a : Option Addr} {len cap : Nat} {x : DataW H × List MemPlace} (h : DataW.trod enc Try.prog w base spare held fuel 22 [.slice a len cap] = some x) : IsIns w a len cap := by
  obtain ⟨l, h1, h2, h3, h4, h5⟩ := InsAt.of h
  exact ⟨l, h5, h1, h2, h3, h4⟩
/-- An allocated block that came in. -/
def IsMis (w : World) (a : Option Addr) (len cap : Nat) : Prop := ∃ l : List Mi, (∀ y ∈ l, y.Wf) ∧ MS w a len cap l
theorem IsMis.of {a : Option Addr} {len cap : Nat} {x : DataW H × List MemPlace} (h : DataW.trod enc Try.prog w base spare held fuel 23 [.slice a len cap] = some x) : IsMis w a len cap := by
  obtain ⟨l, h1, h2, h3, h4, h5⟩ := MisAt.of h
  exact ⟨l, h5, h1, h2, h3, h4⟩
end

end Go.Proofs.Ytimmnnadoeagfaa
