/-
  No cell of these rows narrows 'for every input' (looked for: loops, veiled, ifaces, maps, wideKeys, modest, calm, conditions, laid).
  DERIVED. THE GIVEN ROWS OF THIS SEAT. 5 by the template 'for every input the law returns true; each argument reads behind the call as it read before'; 0 by the template 'total and deterministic' (their statements: YtacendjemomkfaaTotals.lean).
  GIVEN WITH THE SEED: the statements are not yours to turn. If you find one false, say at which input.
  Laid BY PROGRAM, IN A SANDBOX (cutbox-rows.mjs): the forced cells as the released guide's own fill.sh prints them over the translation cea81208ece0e497… (all of the seat's roots in one cut). By AI agents, Wed Nov 11 2026. No macro, syntax, notation, axiom, sorry.
-/
import Derived.Test.YtacendjemomkfaaChecked
import GoSem.Claim
import GoSem.ClaimJoined
import GoSem.ClaimMapViews
import Derived.JoinedTies
import Derived.KernelRfl
namespace Go.Proofs.Ytacendjemomkfaa
/- THE CELL 'sum', in the pinned program and in every row, IS THE sha256 OF THE DUMP (.gsa) THAT YtacendjemomkfaaProg.lean LOADS. Nothing in Lean hashes anything: it is a label: what it is worth is what the hold of that sum in a sandbox is worth. -/
noncomputable def Try.pinned : Pinned := { name := "ytacendjemomkfaa", sum := "cea81208ece0e497d0b14f722a628bf68af2338197fbc841277bd845b1dedfab", checked := Try.checked }
namespace Rows
def none {H : Type} : Left H := { results := [], args := [] }

/-- 'regcertlaw15.EdgeMatchesReference': WHATEVER THE INPUT: true; the input reads as it did. -/
def edgeMatchesReferenceSpec : ChangeSpec := { name := "edgeMatchesReference", fn := fun _ => fun
  | [d1, d2, d3, d4, d5, d6, d7] => { results := [.lit (.bool true)], args := [d1, d2, d3, d4, d5, d6, d7] }
  | _ => none }
def edgeMatchesReferenceRow : OpenClaim := { program := "ytacendjemomkfaa", sum := "cea81208ece0e497d0b14f722a628bf68af2338197fbc841277bd845b1dedfab", func := "regcert/regcertlaw15.EdgeMatchesReference", spec := "edgeMatchesReference", unfollowed := true, recurses := true, apart := false }
def EdgeMatchesReferenceSaid : Prop := edgeMatchesReferenceRow.holds Try.pinned (OpenSpec.ofChange edgeMatchesReferenceSpec)

/-- ITS FALSE NEIGHBOUR: 'it returns false'. Refute it at one input. -/
def edgeMatchesReferenceWrong : ChangeSpec := { name := "edgeMatchesReference", fn := fun _ => fun
  | [d1, d2, d3, d4, d5, d6, d7] => { results := [.lit (.bool false)], args := [d1, d2, d3, d4, d5, d6, d7] }
  | _ => none }
def EdgeMatchesReferenceWrongFalsely : Prop := edgeMatchesReferenceRow.holds Try.pinned (OpenSpec.ofChange edgeMatchesReferenceWrong)

/-- 'regcertlaw15.EdgeInitial': WHATEVER THE INPUT: true; the input reads as it did. -/
def edgeInitialSpec : ChangeSpec := { name := "edgeInitial", fn := fun _ => fun
  | [d1, d2, d3] => { results := [.lit (.bool true)], args := [d1, d2, d3] }
  | _ => none }
def edgeInitialRow : OpenClaim := { program := "ytacendjemomkfaa", sum := "cea81208ece0e497d0b14f722a628bf68af2338197fbc841277bd845b1dedfab", func := "regcert/regcertlaw15.EdgeInitial", spec := "edgeInitial", apart := false }
def EdgeInitialSaid : Prop := edgeInitialRow.holds Try.pinned (OpenSpec.ofChange edgeInitialSpec)

/-- ITS FALSE NEIGHBOUR: 'it returns false'. Refute it at one input. -/
def edgeInitialWrong : ChangeSpec := { name := "edgeInitial", fn := fun _ => fun
  | [d1, d2, d3] => { results := [.lit (.bool false)], args := [d1, d2, d3] }
  | _ => none }
def EdgeInitialWrongFalsely : Prop := edgeInitialRow.holds Try.pinned (OpenSpec.ofChange edgeInitialWrong)

/-- 'regcertlaw15.EdgeEntry': WHATEVER THE INPUT: true; the input reads as it did. -/
def edgeEntrySpec : ChangeSpec := { name := "edgeEntry", fn := fun _ => fun
  | [d1, d2, d3, d4, d5] => { results := [.lit (.bool true)], args := [d1, d2, d3, d4, d5] }
  | _ => none }
def edgeEntryRow : OpenClaim := { program := "ytacendjemomkfaa", sum := "cea81208ece0e497d0b14f722a628bf68af2338197fbc841277bd845b1dedfab", func := "regcert/regcertlaw15.EdgeEntry", spec := "edgeEntry", unfollowed := true, recurses := true, apart := false }
def EdgeEntrySaid : Prop := edgeEntryRow.holds Try.pinned (OpenSpec.ofChange edgeEntrySpec)

/-- ITS FALSE NEIGHBOUR: 'it returns false'. Refute it at one input. -/
def edgeEntryWrong : ChangeSpec := { name := "edgeEntry", fn := fun _ => fun
  | [d1, d2, d3, d4, d5] => { results := [.lit (.bool false)], args := [d1, d2, d3, d4, d5] }
  | _ => none }
def EdgeEntryWrongFalsely : Prop := edgeEntryRow.holds Try.pinned (OpenSpec.ofChange edgeEntryWrong)

/-- 'regcertlaw15.EdgeImplies': WHATEVER THE INPUT: true; the input reads as it did. -/
def edgeImpliesSpec : ChangeSpec := { name := "edgeImplies", fn := fun _ => fun
  | [d1, d2, d3] => { results := [.lit (.bool true)], args := [d1, d2, d3] }
  | _ => none }
def edgeImpliesRow : OpenClaim := { program := "ytacendjemomkfaa", sum := "cea81208ece0e497d0b14f722a628bf68af2338197fbc841277bd845b1dedfab", func := "regcert/regcertlaw15.EdgeImplies", spec := "edgeImplies", apart := false }
def EdgeImpliesSaid : Prop := edgeImpliesRow.holds Try.pinned (OpenSpec.ofChange edgeImpliesSpec)

/-- ITS FALSE NEIGHBOUR: 'it returns false'. Refute it at one input. -/
def edgeImpliesWrong : ChangeSpec := { name := "edgeImplies", fn := fun _ => fun
  | [d1, d2, d3] => { results := [.lit (.bool false)], args := [d1, d2, d3] }
  | _ => none }
def EdgeImpliesWrongFalsely : Prop := edgeImpliesRow.holds Try.pinned (OpenSpec.ofChange edgeImpliesWrong)

/-- 'regcertlaw15.EdgeValid': WHATEVER THE INPUT: true; the input reads as it did. -/
def edgeValidSpec : ChangeSpec := { name := "edgeValid", fn := fun _ => fun
  | [d1, d2, d3, d4, d5, d6] => { results := [.lit (.bool true)], args := [d1, d2, d3, d4, d5, d6] }
  | _ => none }
def edgeValidRow : OpenClaim := { program := "ytacendjemomkfaa", sum := "cea81208ece0e497d0b14f722a628bf68af2338197fbc841277bd845b1dedfab", func := "regcert/regcertlaw15.EdgeValid", spec := "edgeValid", apart := false }
def EdgeValidSaid : Prop := edgeValidRow.holds Try.pinned (OpenSpec.ofChange edgeValidSpec)

/-- ITS FALSE NEIGHBOUR: 'it returns false'. Refute it at one input. -/
def edgeValidWrong : ChangeSpec := { name := "edgeValid", fn := fun _ => fun
  | [d1, d2, d3, d4, d5, d6] => { results := [.lit (.bool false)], args := [d1, d2, d3, d4, d5, d6] }
  | _ => none }
def EdgeValidWrongFalsely : Prop := edgeValidRow.holds Try.pinned (OpenSpec.ofChange edgeValidWrong)

/- THE SECOND FORM. 'bulk': how many values and letters a reading holds, each counted each time it is reached (what is shared counts as often as it is met; a slice's spare places count too). A statement '..UptoSaid' is the law's where the arguments, and the package variables that the reading takes, are together of bulk at most 1048576: NARROWER than '..Said'. Prove '..Said' where nothing that the law and all that it calls make is longer than what came in: it says more and counts as full. Else prove '..UptoSaid'. A law counts once. -/
mutual
def uptoBulk {H : Type} : DataW H → Nat
  | .lit (.string bytes) => bytes.length + 1
  | .lit _ => 1
  | .nil => 1
  | .ptr d => uptoBulk d + 1
  | .slice elems spare => uptoBulkAll elems + uptoBulkAll spare + 1
  | .agg parts => uptoBulkAll parts + 1
  | .iface _ d => uptoBulk d + 1
  | .map entries => uptoBulkEntries entries + 1
  | .held _ => 1
def uptoBulkAll {H : Type} : List (DataW H) → Nat
  | [] => 0
  | d :: r => uptoBulk d + uptoBulkAll r
def uptoBulkEntries {H : Type} : List (Lit × DataW H) → Nat
  | [] => 0
  | x :: r => uptoBulkEntry x + uptoBulkEntries r
def uptoBulkEntry {H : Type} : Lit × DataW H → Nat
  | (.string bytes, d) => bytes.length + uptoBulk d + 1
  | (_, d) => uptoBulk d + 1
 end
def uptoSmall : (H : Type) → List (DataW H) → Bool := fun _ ds => decide (uptoBulkAll ds ≤ 1048576)
def OpenSpec.upto (s : _root_.Go.ChangeSpec) : _root_.Go.OpenSpec := { _root_.Go.OpenSpec.ofChange s with cond := some uptoSmall }

/-- 'regcertlaw15.EdgeMatchesReference', WHERE WHAT IT READS IS OF BULK AT MOST 1048576: true; the input reads as it did. -/
def edgeMatchesReferenceUptoRow : OpenClaim := { program := "ytacendjemomkfaa", sum := "cea81208ece0e497d0b14f722a628bf68af2338197fbc841277bd845b1dedfab", func := "regcert/regcertlaw15.EdgeMatchesReference", spec := "edgeMatchesReference", unfollowed := true, recurses := true, apart := false, narrowed := true }
def EdgeMatchesReferenceUptoSaid : Prop := edgeMatchesReferenceUptoRow.holds Try.pinned (OpenSpec.upto edgeMatchesReferenceSpec)

/-- 'regcertlaw15.EdgeInitial', WHERE WHAT IT READS IS OF BULK AT MOST 1048576: true; the input reads as it did. -/
def edgeInitialUptoRow : OpenClaim := { program := "ytacendjemomkfaa", sum := "cea81208ece0e497d0b14f722a628bf68af2338197fbc841277bd845b1dedfab", func := "regcert/regcertlaw15.EdgeInitial", spec := "edgeInitial", apart := false, narrowed := true }
def EdgeInitialUptoSaid : Prop := edgeInitialUptoRow.holds Try.pinned (OpenSpec.upto edgeInitialSpec)

/-- 'regcertlaw15.EdgeEntry', WHERE WHAT IT READS IS OF BULK AT MOST 1048576: true; the input reads as it did. -/
def edgeEntryUptoRow : OpenClaim := { program := "ytacendjemomkfaa", sum := "cea81208ece0e497d0b14f722a628bf68af2338197fbc841277bd845b1dedfab", func := "regcert/regcertlaw15.EdgeEntry", spec := "edgeEntry", unfollowed := true, recurses := true, apart := false, narrowed := true }
def EdgeEntryUptoSaid : Prop := edgeEntryUptoRow.holds Try.pinned (OpenSpec.upto edgeEntrySpec)

/-- 'regcertlaw15.EdgeImplies', WHERE WHAT IT READS IS OF BULK AT MOST 1048576: true; the input reads as it did. -/
def edgeImpliesUptoRow : OpenClaim := { program := "ytacendjemomkfaa", sum := "cea81208ece0e497d0b14f722a628bf68af2338197fbc841277bd845b1dedfab", func := "regcert/regcertlaw15.EdgeImplies", spec := "edgeImplies", apart := false, narrowed := true }
def EdgeImpliesUptoSaid : Prop := edgeImpliesUptoRow.holds Try.pinned (OpenSpec.upto edgeImpliesSpec)

/-- 'regcertlaw15.EdgeValid', WHERE WHAT IT READS IS OF BULK AT MOST 1048576: true; the input reads as it did. -/
def edgeValidUptoRow : OpenClaim := { program := "ytacendjemomkfaa", sum := "cea81208ece0e497d0b14f722a628bf68af2338197fbc841277bd845b1dedfab", func := "regcert/regcertlaw15.EdgeValid", spec := "edgeValid", apart := false, narrowed := true }
def EdgeValidUptoSaid : Prop := edgeValidUptoRow.holds Try.pinned (OpenSpec.upto edgeValidSpec)

end Rows
end Go.Proofs.Ytacendjemomkfaa
