/-
  No cell of these rows narrows 'for every input' (looked for: loops, veiled, ifaces, maps, wideKeys, modest, calm, conditions, laid).
  DERIVED. THE GIVEN ROWS OF THIS SEAT. 6 by the template 'for every input the law returns true; each argument reads behind the call as it read before'; 0 by the template 'total and deterministic' (their statements: YtcimjghejclknaaTotals.lean).
  GIVEN WITH THE SEED: the statements are not yours to turn. If you find one false, say at which input.
  Laid BY PROGRAM, IN A SANDBOX (cutbox-rows.mjs): the forced cells as the released guide's own fill.sh prints them over the translation 724526e4ddd80ebf… (all of the seat's roots in one cut). By AI agents, Wed Nov 11 2026. No macro, syntax, notation, axiom, sorry.
-/
import Derived.Test.YtcimjghejclknaaChecked
import GoSem.Claim
import GoSem.ClaimJoined
import GoSem.ClaimMapViews
import Derived.JoinedTies
import Derived.KernelRfl
namespace Go.Proofs.Ytcimjghejclknaa
/- THE CELL 'sum', in the pinned program and in every row, IS THE sha256 OF THE DUMP (.gsa) THAT YtcimjghejclknaaProg.lean LOADS. Nothing in Lean hashes anything: it is a label: what it is worth is what the hold of that sum in a sandbox is worth. -/
noncomputable def Try.pinned : Pinned := { name := "ytcimjghejclknaa", sum := "724526e4ddd80ebfe03012cc42e615326763896e7a5994a90ae2ad60913736de", checked := Try.checked }
namespace Rows
def none {H : Type} : Left H := { results := [], args := [] }

/-- 'regcertlaw10.ExecuteMatchesReference': WHATEVER THE INPUT: true; the input reads as it did. -/
def executeMatchesReferenceSpec : ChangeSpec := { name := "executeMatchesReference", fn := fun _ => fun
  | [d1, d2, d3, d4] => { results := [.lit (.bool true)], args := [d1, d2, d3, d4] }
  | _ => none }
def executeMatchesReferenceRow : OpenClaim := { program := "ytcimjghejclknaa", sum := "724526e4ddd80ebfe03012cc42e615326763896e7a5994a90ae2ad60913736de", func := "regcert/regcertlaw10.ExecuteMatchesReference", spec := "executeMatchesReference", unfollowed := true, recurses := true, apart := false }
def ExecuteMatchesReferenceSaid : Prop := executeMatchesReferenceRow.holds Try.pinned (OpenSpec.ofChange executeMatchesReferenceSpec)

/-- ITS FALSE NEIGHBOUR: 'it returns false'. Refute it at one input. -/
def executeMatchesReferenceWrong : ChangeSpec := { name := "executeMatchesReference", fn := fun _ => fun
  | [d1, d2, d3, d4] => { results := [.lit (.bool false)], args := [d1, d2, d3, d4] }
  | _ => none }
def ExecuteMatchesReferenceWrongFalsely : Prop := executeMatchesReferenceRow.holds Try.pinned (OpenSpec.ofChange executeMatchesReferenceWrong)

/-- 'regcertlaw10.ExecuteFuel': WHATEVER THE INPUT: true; the input reads as it did. -/
def executeFuelSpec : ChangeSpec := { name := "executeFuel", fn := fun _ => fun
  | [d1, d2, d3, d4] => { results := [.lit (.bool true)], args := [d1, d2, d3, d4] }
  | _ => none }
def executeFuelRow : OpenClaim := { program := "ytcimjghejclknaa", sum := "724526e4ddd80ebfe03012cc42e615326763896e7a5994a90ae2ad60913736de", func := "regcert/regcertlaw10.ExecuteFuel", spec := "executeFuel", unfollowed := true, recurses := true, apart := false }
def ExecuteFuelSaid : Prop := executeFuelRow.holds Try.pinned (OpenSpec.ofChange executeFuelSpec)

/-- ITS FALSE NEIGHBOUR: 'it returns false'. Refute it at one input. -/
def executeFuelWrong : ChangeSpec := { name := "executeFuel", fn := fun _ => fun
  | [d1, d2, d3, d4] => { results := [.lit (.bool false)], args := [d1, d2, d3, d4] }
  | _ => none }
def ExecuteFuelWrongFalsely : Prop := executeFuelRow.holds Try.pinned (OpenSpec.ofChange executeFuelWrong)

/-- 'regcertlaw10.ExecuteSteps': WHATEVER THE INPUT: true; the input reads as it did. -/
def executeStepsSpec : ChangeSpec := { name := "executeSteps", fn := fun _ => fun
  | [d1, d2, d3] => { results := [.lit (.bool true)], args := [d1, d2, d3] }
  | _ => none }
def executeStepsRow : OpenClaim := { program := "ytcimjghejclknaa", sum := "724526e4ddd80ebfe03012cc42e615326763896e7a5994a90ae2ad60913736de", func := "regcert/regcertlaw10.ExecuteSteps", spec := "executeSteps", unfollowed := true, recurses := true, apart := false }
def ExecuteStepsSaid : Prop := executeStepsRow.holds Try.pinned (OpenSpec.ofChange executeStepsSpec)

/-- ITS FALSE NEIGHBOUR: 'it returns false'. Refute it at one input. -/
def executeStepsWrong : ChangeSpec := { name := "executeSteps", fn := fun _ => fun
  | [d1, d2, d3] => { results := [.lit (.bool false)], args := [d1, d2, d3] }
  | _ => none }
def ExecuteStepsWrongFalsely : Prop := executeStepsRow.holds Try.pinned (OpenSpec.ofChange executeStepsWrong)

/-- 'regcertlaw10.ExecuteMoveOnly': WHATEVER THE INPUT: true; the input reads as it did. -/
def executeMoveOnlySpec : ChangeSpec := { name := "executeMoveOnly", fn := fun _ => fun
  | [d1, d2, d3, d4] => { results := [.lit (.bool true)], args := [d1, d2, d3, d4] }
  | _ => none }
def executeMoveOnlyRow : OpenClaim := { program := "ytcimjghejclknaa", sum := "724526e4ddd80ebfe03012cc42e615326763896e7a5994a90ae2ad60913736de", func := "regcert/regcertlaw10.ExecuteMoveOnly", spec := "executeMoveOnly", unfollowed := true, recurses := true, apart := false }
def ExecuteMoveOnlySaid : Prop := executeMoveOnlyRow.holds Try.pinned (OpenSpec.ofChange executeMoveOnlySpec)

/-- ITS FALSE NEIGHBOUR: 'it returns false'. Refute it at one input. -/
def executeMoveOnlyWrong : ChangeSpec := { name := "executeMoveOnly", fn := fun _ => fun
  | [d1, d2, d3, d4] => { results := [.lit (.bool false)], args := [d1, d2, d3, d4] }
  | _ => none }
def ExecuteMoveOnlyWrongFalsely : Prop := executeMoveOnlyRow.holds Try.pinned (OpenSpec.ofChange executeMoveOnlyWrong)

/-- 'regcertlaw10.ExecuteUnused': WHATEVER THE INPUT: true; the input reads as it did. -/
def executeUnusedSpec : ChangeSpec := { name := "executeUnused", fn := fun _ => fun
  | [d1, d2, d3, d4, d5] => { results := [.lit (.bool true)], args := [d1, d2, d3, d4, d5] }
  | _ => none }
def executeUnusedRow : OpenClaim := { program := "ytcimjghejclknaa", sum := "724526e4ddd80ebfe03012cc42e615326763896e7a5994a90ae2ad60913736de", func := "regcert/regcertlaw10.ExecuteUnused", spec := "executeUnused", unfollowed := true, recurses := true, apart := false }
def ExecuteUnusedSaid : Prop := executeUnusedRow.holds Try.pinned (OpenSpec.ofChange executeUnusedSpec)

/-- ITS FALSE NEIGHBOUR: 'it returns false'. Refute it at one input. -/
def executeUnusedWrong : ChangeSpec := { name := "executeUnused", fn := fun _ => fun
  | [d1, d2, d3, d4, d5] => { results := [.lit (.bool false)], args := [d1, d2, d3, d4, d5] }
  | _ => none }
def ExecuteUnusedWrongFalsely : Prop := executeUnusedRow.holds Try.pinned (OpenSpec.ofChange executeUnusedWrong)

/-- 'regcertlaw10.ExecuteKeeps': WHATEVER THE INPUT: true; the input reads as it did. -/
def executeKeepsSpec : ChangeSpec := { name := "executeKeeps", fn := fun _ => fun
  | [d1, d2, d3] => { results := [.lit (.bool true)], args := [d1, d2, d3] }
  | _ => none }
def executeKeepsRow : OpenClaim := { program := "ytcimjghejclknaa", sum := "724526e4ddd80ebfe03012cc42e615326763896e7a5994a90ae2ad60913736de", func := "regcert/regcertlaw10.ExecuteKeeps", spec := "executeKeeps", unfollowed := true, recurses := true, apart := false }
def ExecuteKeepsSaid : Prop := executeKeepsRow.holds Try.pinned (OpenSpec.ofChange executeKeepsSpec)

/-- ITS FALSE NEIGHBOUR: 'it returns false'. Refute it at one input. -/
def executeKeepsWrong : ChangeSpec := { name := "executeKeeps", fn := fun _ => fun
  | [d1, d2, d3] => { results := [.lit (.bool false)], args := [d1, d2, d3] }
  | _ => none }
def ExecuteKeepsWrongFalsely : Prop := executeKeepsRow.holds Try.pinned (OpenSpec.ofChange executeKeepsWrong)

/- THE SECOND FORM. 'bulk': how many values and letters a reading holds, each counted each time it is reached (what is shared counts as often as it is met; a slice's spare places count too). A statement '..UptoSaid' is the law's where the arguments, and the package variables that the reading takes, are together of bulk at most 1048576: NARROWER than '..Said'. Prove '..Said' where nothing that the law and all that it calls make is longer than what came in: it says more and counts as full. Else prove '..UptoSaid'. A law counts once. -/
mutual
def uptoBulk {H : Type} : DataW H → Nat
  | .lit (.string bytes) => bytes.length + 1
  | .lit _ => 1
  | .nil => 1
  | .ptr d => uptoBulk d + 1
  | .slice elems spare => uptoBulkAll elems + uptoBulkAll spare + 1
  | .agg parts => uptoBulkAll parts + 1
  | .iface _ d => uptoBulk d + 1
  | .map entries => uptoBulkEntries entries + 1
  | .held _ => 1
def uptoBulkAll {H : Type} : List (DataW H) → Nat
  | [] => 0
  | d :: r => uptoBulk d + uptoBulkAll r
def uptoBulkEntries {H : Type} : List (Lit × DataW H) → Nat
  | [] => 0
  | x :: r => uptoBulkEntry x + uptoBulkEntries r
def uptoBulkEntry {H : Type} : Lit × DataW H → Nat
  | (.string bytes, d) => bytes.length + uptoBulk d + 1
  | (_, d) => uptoBulk d + 1
 end
def uptoSmall : (H : Type) → List (DataW H) → Bool := fun _ ds => decide (uptoBulkAll ds ≤ 1048576)
def OpenSpec.upto (s : _root_.Go.ChangeSpec) : _root_.Go.OpenSpec := { _root_.Go.OpenSpec.ofChange s with cond := some uptoSmall }

/-- 'regcertlaw10.ExecuteMatchesReference', WHERE WHAT IT READS IS OF BULK AT MOST 1048576: true; the input reads as it did. -/
def executeMatchesReferenceUptoRow : OpenClaim := { program := "ytcimjghejclknaa", sum := "724526e4ddd80ebfe03012cc42e615326763896e7a5994a90ae2ad60913736de", func := "regcert/regcertlaw10.ExecuteMatchesReference", spec := "executeMatchesReference", unfollowed := true, recurses := true, apart := false, narrowed := true }
def ExecuteMatchesReferenceUptoSaid : Prop := executeMatchesReferenceUptoRow.holds Try.pinned (OpenSpec.upto executeMatchesReferenceSpec)

/-- 'regcertlaw10.ExecuteFuel', WHERE WHAT IT READS IS OF BULK AT MOST 1048576: true; the input reads as it did. -/
def executeFuelUptoRow : OpenClaim := { program := "ytcimjghejclknaa", sum := "724526e4ddd80ebfe03012cc42e615326763896e7a5994a90ae2ad60913736de", func := "regcert/regcertlaw10.ExecuteFuel", spec := "executeFuel", unfollowed := true, recurses := true, apart := false, narrowed := true }
def ExecuteFuelUptoSaid : Prop := executeFuelUptoRow.holds Try.pinned (OpenSpec.upto executeFuelSpec)

/-- 'regcertlaw10.ExecuteSteps', WHERE WHAT IT READS IS OF BULK AT MOST 1048576: true; the input reads as it did. -/
def executeStepsUptoRow : OpenClaim := { program := "ytcimjghejclknaa", sum := "724526e4ddd80ebfe03012cc42e615326763896e7a5994a90ae2ad60913736de", func := "regcert/regcertlaw10.ExecuteSteps", spec := "executeSteps", unfollowed := true, recurses := true, apart := false, narrowed := true }
def ExecuteStepsUptoSaid : Prop := executeStepsUptoRow.holds Try.pinned (OpenSpec.upto executeStepsSpec)

/-- 'regcertlaw10.ExecuteMoveOnly', WHERE WHAT IT READS IS OF BULK AT MOST 1048576: true; the input reads as it did. -/
def executeMoveOnlyUptoRow : OpenClaim := { program := "ytcimjghejclknaa", sum := "724526e4ddd80ebfe03012cc42e615326763896e7a5994a90ae2ad60913736de", func := "regcert/regcertlaw10.ExecuteMoveOnly", spec := "executeMoveOnly", unfollowed := true, recurses := true, apart := false, narrowed := true }
def ExecuteMoveOnlyUptoSaid : Prop := executeMoveOnlyUptoRow.holds Try.pinned (OpenSpec.upto executeMoveOnlySpec)

/-- 'regcertlaw10.ExecuteUnused', WHERE WHAT IT READS IS OF BULK AT MOST 1048576: true; the input reads as it did. -/
def executeUnusedUptoRow : OpenClaim := { program := "ytcimjghejclknaa", sum := "724526e4ddd80ebfe03012cc42e615326763896e7a5994a90ae2ad60913736de", func := "regcert/regcertlaw10.ExecuteUnused", spec := "executeUnused", unfollowed := true, recurses := true, apart := false, narrowed := true }
def ExecuteUnusedUptoSaid : Prop := executeUnusedUptoRow.holds Try.pinned (OpenSpec.upto executeUnusedSpec)

/-- 'regcertlaw10.ExecuteKeeps', WHERE WHAT IT READS IS OF BULK AT MOST 1048576: true; the input reads as it did. -/
def executeKeepsUptoRow : OpenClaim := { program := "ytcimjghejclknaa", sum := "724526e4ddd80ebfe03012cc42e615326763896e7a5994a90ae2ad60913736de", func := "regcert/regcertlaw10.ExecuteKeeps", spec := "executeKeeps", unfollowed := true, recurses := true, apart := false, narrowed := true }
def ExecuteKeepsUptoSaid : Prop := executeKeepsUptoRow.holds Try.pinned (OpenSpec.upto executeKeepsSpec)

end Rows
end Go.Proofs.Ytcimjghejclknaa
