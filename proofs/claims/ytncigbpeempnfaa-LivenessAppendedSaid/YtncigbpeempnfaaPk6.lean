import Derived.Test.YtncigbpeempnfaaPk1

/-
  A block that came in as a value.
-/
namespace Go.Proofs.Ytncigbpeempnfaa
open Go.RowKit
set_option linter.unusedVariables false

/-- A block as a value. -/
def IsBlk (w : World) (cs : Array Value) : Prop :=
  ∃ (y : Blk) (A : Option Addr) (c : Nat), cs = #[.slice A y.code.length c, .int .i64 y.term.kind, .int .i64 y.term.a, .int .i64 y.term.to, .int .i64 y.term.el] ∧ y.code.length ≤ c ∧ c ≤ maxLen ∧ InsAt w w.heap.size A y.code ∧ y.Wf

theorem IsBlk.of {H : Type} {enc : TypeId × Value → H} {w : World} {base : Nat} {spare : Nat → Bool} {held : Bool} {fuel : Nat} {cs : Array Value} {x : DataW H × List MemPlace} (h : DataW.trod enc Try.prog w base spare held fuel 34 cs.toList = some x) : IsBlk w cs := by
  obtain ⟨y, A, c, hy, h1, h2, h3, h4⟩ := Blk.of h
  obtain ⟨cs⟩ := cs
  exact ⟨y, A, c, congrArg List.toArray hy, h1, h2, h3, h4⟩

end Go.Proofs.Ytncigbpeempnfaa
