/-
  No cell of these rows narrows 'for every input' (looked for: loops, veiled, ifaces, maps, wideKeys, modest, calm, conditions, laid).
  DERIVED. THE GIVEN ROWS OF THIS SEAT. 5 by the template 'for every input the law returns true; each argument reads behind the call as it read before'; 0 by the template 'total and deterministic' (their statements: YtfkknebjhcafhaaTotals.lean).
  GIVEN WITH THE SEED: the statements are not yours to turn. If you find one false, say at which input.
  Laid BY PROGRAM, IN A SANDBOX (cutbox-rows.mjs): the forced cells as the released guide's own fill.sh prints them over the translation 961b1fbbfd42770f… (all of the seat's roots in one cut). By AI agents, Wed Nov 11 2026. No macro, syntax, notation, axiom, sorry.
-/
import Derived.Test.YtfkknebjhcafhaaChecked
import GoSem.Claim
import GoSem.ClaimJoined
import GoSem.ClaimMapViews
import Derived.JoinedTies
import Derived.KernelRfl
namespace Go.Proofs.Ytfkknebjhcafhaa
/- THE CELL 'sum', in the pinned program and in every row, IS THE sha256 OF THE DUMP (.gsa) THAT YtfkknebjhcafhaaProg.lean LOADS. Nothing in Lean hashes anything: it is a label: what it is worth is what the hold of that sum in a sandbox is worth. -/
noncomputable def Try.pinned : Pinned := { name := "ytfkknebjhcafhaa", sum := "961b1fbbfd42770f03d57404e0ef177b6364888e6db52f58b0d2ecada1b232be", checked := Try.checked }
namespace Rows
def none {H : Type} : Left H := { results := [], args := [] }

/-- 'regcertlaw09.InterpMatchesReference': WHATEVER THE INPUT: true; the input reads as it did. -/
def interpMatchesReferenceSpec : ChangeSpec := { name := "interpMatchesReference", fn := fun _ => fun
  | [d1, d2, d3] => { results := [.lit (.bool true)], args := [d1, d2, d3] }
  | _ => none }
def interpMatchesReferenceRow : OpenClaim := { program := "ytfkknebjhcafhaa", sum := "961b1fbbfd42770f03d57404e0ef177b6364888e6db52f58b0d2ecada1b232be", func := "regcert/regcertlaw09.InterpMatchesReference", spec := "interpMatchesReference", unfollowed := true, recurses := true, apart := false }
def InterpMatchesReferenceSaid : Prop := interpMatchesReferenceRow.holds Try.pinned (OpenSpec.ofChange interpMatchesReferenceSpec)

/-- ITS FALSE NEIGHBOUR: 'it returns false'. Refute it at one input. -/
def interpMatchesReferenceWrong : ChangeSpec := { name := "interpMatchesReference", fn := fun _ => fun
  | [d1, d2, d3] => { results := [.lit (.bool false)], args := [d1, d2, d3] }
  | _ => none }
def InterpMatchesReferenceWrongFalsely : Prop := interpMatchesReferenceRow.holds Try.pinned (OpenSpec.ofChange interpMatchesReferenceWrong)

/-- 'regcertlaw09.InterpFuel': WHATEVER THE INPUT: true; the input reads as it did. -/
def interpFuelSpec : ChangeSpec := { name := "interpFuel", fn := fun _ => fun
  | [d1, d2, d3, d4] => { results := [.lit (.bool true)], args := [d1, d2, d3, d4] }
  | _ => none }
def interpFuelRow : OpenClaim := { program := "ytfkknebjhcafhaa", sum := "961b1fbbfd42770f03d57404e0ef177b6364888e6db52f58b0d2ecada1b232be", func := "regcert/regcertlaw09.InterpFuel", spec := "interpFuel", unfollowed := true, recurses := true, apart := false }
def InterpFuelSaid : Prop := interpFuelRow.holds Try.pinned (OpenSpec.ofChange interpFuelSpec)

/-- ITS FALSE NEIGHBOUR: 'it returns false'. Refute it at one input. -/
def interpFuelWrong : ChangeSpec := { name := "interpFuel", fn := fun _ => fun
  | [d1, d2, d3, d4] => { results := [.lit (.bool false)], args := [d1, d2, d3, d4] }
  | _ => none }
def InterpFuelWrongFalsely : Prop := interpFuelRow.holds Try.pinned (OpenSpec.ofChange interpFuelWrong)

/-- 'regcertlaw09.InterpSteps': WHATEVER THE INPUT: true; the input reads as it did. -/
def interpStepsSpec : ChangeSpec := { name := "interpSteps", fn := fun _ => fun
  | [d1, d2, d3] => { results := [.lit (.bool true)], args := [d1, d2, d3] }
  | _ => none }
def interpStepsRow : OpenClaim := { program := "ytfkknebjhcafhaa", sum := "961b1fbbfd42770f03d57404e0ef177b6364888e6db52f58b0d2ecada1b232be", func := "regcert/regcertlaw09.InterpSteps", spec := "interpSteps", unfollowed := true, recurses := true, apart := false }
def InterpStepsSaid : Prop := interpStepsRow.holds Try.pinned (OpenSpec.ofChange interpStepsSpec)

/-- ITS FALSE NEIGHBOUR: 'it returns false'. Refute it at one input. -/
def interpStepsWrong : ChangeSpec := { name := "interpSteps", fn := fun _ => fun
  | [d1, d2, d3] => { results := [.lit (.bool false)], args := [d1, d2, d3] }
  | _ => none }
def InterpStepsWrongFalsely : Prop := interpStepsRow.holds Try.pinned (OpenSpec.ofChange interpStepsWrong)

/-- 'regcertlaw09.InterpUnreachable': WHATEVER THE INPUT: true; the input reads as it did. -/
def interpUnreachableSpec : ChangeSpec := { name := "interpUnreachable", fn := fun _ => fun
  | [d1, d2, d3, d4, d5] => { results := [.lit (.bool true)], args := [d1, d2, d3, d4, d5] }
  | _ => none }
def interpUnreachableRow : OpenClaim := { program := "ytfkknebjhcafhaa", sum := "961b1fbbfd42770f03d57404e0ef177b6364888e6db52f58b0d2ecada1b232be", func := "regcert/regcertlaw09.InterpUnreachable", spec := "interpUnreachable", unfollowed := true, recurses := true, apart := false }
def InterpUnreachableSaid : Prop := interpUnreachableRow.holds Try.pinned (OpenSpec.ofChange interpUnreachableSpec)

/-- ITS FALSE NEIGHBOUR: 'it returns false'. Refute it at one input. -/
def interpUnreachableWrong : ChangeSpec := { name := "interpUnreachable", fn := fun _ => fun
  | [d1, d2, d3, d4, d5] => { results := [.lit (.bool false)], args := [d1, d2, d3, d4, d5] }
  | _ => none }
def InterpUnreachableWrongFalsely : Prop := interpUnreachableRow.holds Try.pinned (OpenSpec.ofChange interpUnreachableWrong)

/-- 'regcertlaw09.InterpKeeps': WHATEVER THE INPUT: true; the input reads as it did. -/
def interpKeepsSpec : ChangeSpec := { name := "interpKeeps", fn := fun _ => fun
  | [d1, d2, d3] => { results := [.lit (.bool true)], args := [d1, d2, d3] }
  | _ => none }
def interpKeepsRow : OpenClaim := { program := "ytfkknebjhcafhaa", sum := "961b1fbbfd42770f03d57404e0ef177b6364888e6db52f58b0d2ecada1b232be", func := "regcert/regcertlaw09.InterpKeeps", spec := "interpKeeps", unfollowed := true, recurses := true, apart := false }
def InterpKeepsSaid : Prop := interpKeepsRow.holds Try.pinned (OpenSpec.ofChange interpKeepsSpec)

/-- ITS FALSE NEIGHBOUR: 'it returns false'. Refute it at one input. -/
def interpKeepsWrong : ChangeSpec := { name := "interpKeeps", fn := fun _ => fun
  | [d1, d2, d3] => { results := [.lit (.bool false)], args := [d1, d2, d3] }
  | _ => none }
def InterpKeepsWrongFalsely : Prop := interpKeepsRow.holds Try.pinned (OpenSpec.ofChange interpKeepsWrong)

/- THE SECOND FORM. 'bulk': how many values and letters a reading holds, each counted each time it is reached (what is shared counts as often as it is met; a slice's spare places count too). A statement '..UptoSaid' is the law's where the arguments, and the package variables that the reading takes, are together of bulk at most 1048576: NARROWER than '..Said'. Prove '..Said' where nothing that the law and all that it calls make is longer than what came in: it says more and counts as full. Else prove '..UptoSaid'. A law counts once. -/
mutual
def uptoBulk {H : Type} : DataW H → Nat
  | .lit (.string bytes) => bytes.length + 1
  | .lit _ => 1
  | .nil => 1
  | .ptr d => uptoBulk d + 1
  | .slice elems spare => uptoBulkAll elems + uptoBulkAll spare + 1
  | .agg parts => uptoBulkAll parts + 1
  | .iface _ d => uptoBulk d + 1
  | .map entries => uptoBulkEntries entries + 1
  | .held _ => 1
def uptoBulkAll {H : Type} : List (DataW H) → Nat
  | [] => 0
  | d :: r => uptoBulk d + uptoBulkAll r
def uptoBulkEntries {H : Type} : List (Lit × DataW H) → Nat
  | [] => 0
  | x :: r => uptoBulkEntry x + uptoBulkEntries r
def uptoBulkEntry {H : Type} : Lit × DataW H → Nat
  | (.string bytes, d) => bytes.length + uptoBulk d + 1
  | (_, d) => uptoBulk d + 1
 end
def uptoSmall : (H : Type) → List (DataW H) → Bool := fun _ ds => decide (uptoBulkAll ds ≤ 1048576)
def OpenSpec.upto (s : _root_.Go.ChangeSpec) : _root_.Go.OpenSpec := { _root_.Go.OpenSpec.ofChange s with cond := some uptoSmall }

/-- 'regcertlaw09.InterpMatchesReference', WHERE WHAT IT READS IS OF BULK AT MOST 1048576: true; the input reads as it did. -/
def interpMatchesReferenceUptoRow : OpenClaim := { program := "ytfkknebjhcafhaa", sum := "961b1fbbfd42770f03d57404e0ef177b6364888e6db52f58b0d2ecada1b232be", func := "regcert/regcertlaw09.InterpMatchesReference", spec := "interpMatchesReference", unfollowed := true, recurses := true, apart := false, narrowed := true }
def InterpMatchesReferenceUptoSaid : Prop := interpMatchesReferenceUptoRow.holds Try.pinned (OpenSpec.upto interpMatchesReferenceSpec)

/-- 'regcertlaw09.InterpFuel', WHERE WHAT IT READS IS OF BULK AT MOST 1048576: true; the input reads as it did. -/
def interpFuelUptoRow : OpenClaim := { program := "ytfkknebjhcafhaa", sum := "961b1fbbfd42770f03d57404e0ef177b6364888e6db52f58b0d2ecada1b232be", func := "regcert/regcertlaw09.InterpFuel", spec := "interpFuel", unfollowed := true, recurses := true, apart := false, narrowed := true }
def InterpFuelUptoSaid : Prop := interpFuelUptoRow.holds Try.pinned (OpenSpec.upto interpFuelSpec)

/-- 'regcertlaw09.InterpSteps', WHERE WHAT IT READS IS OF BULK AT MOST 1048576: true; the input reads as it did. -/
def interpStepsUptoRow : OpenClaim := { program := "ytfkknebjhcafhaa", sum := "961b1fbbfd42770f03d57404e0ef177b6364888e6db52f58b0d2ecada1b232be", func := "regcert/regcertlaw09.InterpSteps", spec := "interpSteps", unfollowed := true, recurses := true, apart := false, narrowed := true }
def InterpStepsUptoSaid : Prop := interpStepsUptoRow.holds Try.pinned (OpenSpec.upto interpStepsSpec)

/-- 'regcertlaw09.InterpUnreachable', WHERE WHAT IT READS IS OF BULK AT MOST 1048576: true; the input reads as it did. -/
def interpUnreachableUptoRow : OpenClaim := { program := "ytfkknebjhcafhaa", sum := "961b1fbbfd42770f03d57404e0ef177b6364888e6db52f58b0d2ecada1b232be", func := "regcert/regcertlaw09.InterpUnreachable", spec := "interpUnreachable", unfollowed := true, recurses := true, apart := false, narrowed := true }
def InterpUnreachableUptoSaid : Prop := interpUnreachableUptoRow.holds Try.pinned (OpenSpec.upto interpUnreachableSpec)

/-- 'regcertlaw09.InterpKeeps', WHERE WHAT IT READS IS OF BULK AT MOST 1048576: true; the input reads as it did. -/
def interpKeepsUptoRow : OpenClaim := { program := "ytfkknebjhcafhaa", sum := "961b1fbbfd42770f03d57404e0ef177b6364888e6db52f58b0d2ecada1b232be", func := "regcert/regcertlaw09.InterpKeeps", spec := "interpKeeps", unfollowed := true, recurses := true, apart := false, narrowed := true }
def InterpKeepsUptoSaid : Prop := interpKeepsUptoRow.holds Try.pinned (OpenSpec.upto interpKeepsSpec)

end Rows
end Go.Proofs.Ytfkknebjhcafhaa
