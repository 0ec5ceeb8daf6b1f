/-
  No cell of these rows narrows 'for every input' (looked for: loops, veiled, ifaces, maps, wideKeys, modest, calm, conditions, laid).
  DERIVED. THE GIVEN ROWS OF THIS SEAT. 4 by the template 'for every input the law returns true; each argument reads behind the call as it read before'; 0 by the template 'total and deterministic' (their statements: YthehcdajedaefaaTotals.lean).
  GIVEN WITH THE SEED: the statements are not yours to turn. If you find one false, say at which input.
  Laid BY PROGRAM, IN A SANDBOX (cutbox-rows.mjs): the forced cells as the released guide's own fill.sh prints them over the translation e2ea42811334fdb2… (all of the seat's roots in one cut). By AI agents, Wed Nov 11 2026. No macro, syntax, notation, axiom, sorry.
-/
import Derived.Test.YthehcdajedaefaaChecked
import GoSem.Claim
import GoSem.ClaimJoined
import GoSem.ClaimMapViews
import Derived.JoinedTies
import Derived.KernelRfl
namespace Go.Proofs.Ythehcdajedaefaa
/- THE CELL 'sum', in the pinned program and in every row, IS THE sha256 OF THE DUMP (.gsa) THAT YthehcdajedaefaaProg.lean LOADS. Nothing in Lean hashes anything: it is a label: what it is worth is what the hold of that sum in a sandbox is worth. -/
noncomputable def Try.pinned : Pinned := { name := "ythehcdajedaefaa", sum := "e2ea42811334fdb25ad7187a68335cb856d0d304d18e085c7f5d83e3b289208a", checked := Try.checked }
namespace Rows
def none {H : Type} : Left H := { results := [], args := [] }

/-- 'regcertlaw19.WitnessMatchesReference': WHATEVER THE INPUT: true; the input reads as it did. -/
def witnessMatchesReferenceSpec : ChangeSpec := { name := "witnessMatchesReference", fn := fun _ => fun
  | [d1, d2, d3, d4, d5] => { results := [.lit (.bool true)], args := [d1, d2, d3, d4, d5] }
  | _ => none }
def witnessMatchesReferenceRow : OpenClaim := { program := "ythehcdajedaefaa", sum := "e2ea42811334fdb25ad7187a68335cb856d0d304d18e085c7f5d83e3b289208a", func := "regcert/regcertlaw19.WitnessMatchesReference", spec := "witnessMatchesReference", unfollowed := true, recurses := true, apart := false }
def WitnessMatchesReferenceSaid : Prop := witnessMatchesReferenceRow.holds Try.pinned (OpenSpec.ofChange witnessMatchesReferenceSpec)

/-- ITS FALSE NEIGHBOUR: 'it returns false'. Refute it at one input. -/
def witnessMatchesReferenceWrong : ChangeSpec := { name := "witnessMatchesReference", fn := fun _ => fun
  | [d1, d2, d3, d4, d5] => { results := [.lit (.bool false)], args := [d1, d2, d3, d4, d5] }
  | _ => none }
def WitnessMatchesReferenceWrongFalsely : Prop := witnessMatchesReferenceRow.holds Try.pinned (OpenSpec.ofChange witnessMatchesReferenceWrong)

/-- 'regcertlaw19.WitnessRoundTrip': WHATEVER THE INPUT: true; the input reads as it did. -/
def witnessRoundTripSpec : ChangeSpec := { name := "witnessRoundTrip", fn := fun _ => fun
  | [d1, d2, d3, d4, d5] => { results := [.lit (.bool true)], args := [d1, d2, d3, d4, d5] }
  | _ => none }
def witnessRoundTripRow : OpenClaim := { program := "ythehcdajedaefaa", sum := "e2ea42811334fdb25ad7187a68335cb856d0d304d18e085c7f5d83e3b289208a", func := "regcert/regcertlaw19.WitnessRoundTrip", spec := "witnessRoundTrip", unfollowed := true, recurses := true, apart := false }
def WitnessRoundTripSaid : Prop := witnessRoundTripRow.holds Try.pinned (OpenSpec.ofChange witnessRoundTripSpec)

/-- ITS FALSE NEIGHBOUR: 'it returns false'. Refute it at one input. -/
def witnessRoundTripWrong : ChangeSpec := { name := "witnessRoundTrip", fn := fun _ => fun
  | [d1, d2, d3, d4, d5] => { results := [.lit (.bool false)], args := [d1, d2, d3, d4, d5] }
  | _ => none }
def WitnessRoundTripWrongFalsely : Prop := witnessRoundTripRow.holds Try.pinned (OpenSpec.ofChange witnessRoundTripWrong)

/-- 'regcertlaw19.WitnessCanonical': WHATEVER THE INPUT: true; the input reads as it did. -/
def witnessCanonicalSpec : ChangeSpec := { name := "witnessCanonical", fn := fun _ => fun
  | [d1, d2, d3, d4, d5] => { results := [.lit (.bool true)], args := [d1, d2, d3, d4, d5] }
  | _ => none }
def witnessCanonicalRow : OpenClaim := { program := "ythehcdajedaefaa", sum := "e2ea42811334fdb25ad7187a68335cb856d0d304d18e085c7f5d83e3b289208a", func := "regcert/regcertlaw19.WitnessCanonical", spec := "witnessCanonical", unfollowed := true, recurses := true, apart := false }
def WitnessCanonicalSaid : Prop := witnessCanonicalRow.holds Try.pinned (OpenSpec.ofChange witnessCanonicalSpec)

/-- ITS FALSE NEIGHBOUR: 'it returns false'. Refute it at one input. -/
def witnessCanonicalWrong : ChangeSpec := { name := "witnessCanonical", fn := fun _ => fun
  | [d1, d2, d3, d4, d5] => { results := [.lit (.bool false)], args := [d1, d2, d3, d4, d5] }
  | _ => none }
def WitnessCanonicalWrongFalsely : Prop := witnessCanonicalRow.holds Try.pinned (OpenSpec.ofChange witnessCanonicalWrong)

/-- 'regcertlaw19.WitnessTruncated': WHATEVER THE INPUT: true; the input reads as it did. -/
def witnessTruncatedSpec : ChangeSpec := { name := "witnessTruncated", fn := fun _ => fun
  | [d1, d2, d3, d4, d5] => { results := [.lit (.bool true)], args := [d1, d2, d3, d4, d5] }
  | _ => none }
def witnessTruncatedRow : OpenClaim := { program := "ythehcdajedaefaa", sum := "e2ea42811334fdb25ad7187a68335cb856d0d304d18e085c7f5d83e3b289208a", func := "regcert/regcertlaw19.WitnessTruncated", spec := "witnessTruncated", unfollowed := true, recurses := true, apart := false }
def WitnessTruncatedSaid : Prop := witnessTruncatedRow.holds Try.pinned (OpenSpec.ofChange witnessTruncatedSpec)

/-- ITS FALSE NEIGHBOUR: 'it returns false'. Refute it at one input. -/
def witnessTruncatedWrong : ChangeSpec := { name := "witnessTruncated", fn := fun _ => fun
  | [d1, d2, d3, d4, d5] => { results := [.lit (.bool false)], args := [d1, d2, d3, d4, d5] }
  | _ => none }
def WitnessTruncatedWrongFalsely : Prop := witnessTruncatedRow.holds Try.pinned (OpenSpec.ofChange witnessTruncatedWrong)

/- THE SECOND FORM. 'bulk': how many values and letters a reading holds, each counted each time it is reached (what is shared counts as often as it is met; a slice's spare places count too). A statement '..UptoSaid' is the law's where the arguments, and the package variables that the reading takes, are together of bulk at most 1048576: NARROWER than '..Said'. Prove '..Said' where nothing that the law and all that it calls make is longer than what came in: it says more and counts as full. Else prove '..UptoSaid'. A law counts once. -/
mutual
def uptoBulk {H : Type} : DataW H → Nat
  | .lit (.string bytes) => bytes.length + 1
  | .lit _ => 1
  | .nil => 1
  | .ptr d => uptoBulk d + 1
  | .slice elems spare => uptoBulkAll elems + uptoBulkAll spare + 1
  | .agg parts => uptoBulkAll parts + 1
  | .iface _ d => uptoBulk d + 1
  | .map entries => uptoBulkEntries entries + 1
  | .held _ => 1
def uptoBulkAll {H : Type} : List (DataW H) → Nat
  | [] => 0
  | d :: r => uptoBulk d + uptoBulkAll r
def uptoBulkEntries {H : Type} : List (Lit × DataW H) → Nat
  | [] => 0
  | x :: r => uptoBulkEntry x + uptoBulkEntries r
def uptoBulkEntry {H : Type} : Lit × DataW H → Nat
  | (.string bytes, d) => bytes.length + uptoBulk d + 1
  | (_, d) => uptoBulk d + 1
 end
def uptoSmall : (H : Type) → List (DataW H) → Bool := fun _ ds => decide (uptoBulkAll ds ≤ 1048576)
def OpenSpec.upto (s : _root_.Go.ChangeSpec) : _root_.Go.OpenSpec := { _root_.Go.OpenSpec.ofChange s with cond := some uptoSmall }

/-- 'regcertlaw19.WitnessMatchesReference', WHERE WHAT IT READS IS OF BULK AT MOST 1048576: true; the input reads as it did. -/
def witnessMatchesReferenceUptoRow : OpenClaim := { program := "ythehcdajedaefaa", sum := "e2ea42811334fdb25ad7187a68335cb856d0d304d18e085c7f5d83e3b289208a", func := "regcert/regcertlaw19.WitnessMatchesReference", spec := "witnessMatchesReference", unfollowed := true, recurses := true, apart := false, narrowed := true }
def WitnessMatchesReferenceUptoSaid : Prop := witnessMatchesReferenceUptoRow.holds Try.pinned (OpenSpec.upto witnessMatchesReferenceSpec)

/-- 'regcertlaw19.WitnessRoundTrip', WHERE WHAT IT READS IS OF BULK AT MOST 1048576: true; the input reads as it did. -/
def witnessRoundTripUptoRow : OpenClaim := { program := "ythehcdajedaefaa", sum := "e2ea42811334fdb25ad7187a68335cb856d0d304d18e085c7f5d83e3b289208a", func := "regcert/regcertlaw19.WitnessRoundTrip", spec := "witnessRoundTrip", unfollowed := true, recurses := true, apart := false, narrowed := true }
def WitnessRoundTripUptoSaid : Prop := witnessRoundTripUptoRow.holds Try.pinned (OpenSpec.upto witnessRoundTripSpec)

/-- 'regcertlaw19.WitnessCanonical', WHERE WHAT IT READS IS OF BULK AT MOST 1048576: true; the input reads as it did. -/
def witnessCanonicalUptoRow : OpenClaim := { program := "ythehcdajedaefaa", sum := "e2ea42811334fdb25ad7187a68335cb856d0d304d18e085c7f5d83e3b289208a", func := "regcert/regcertlaw19.WitnessCanonical", spec := "witnessCanonical", unfollowed := true, recurses := true, apart := false, narrowed := true }
def WitnessCanonicalUptoSaid : Prop := witnessCanonicalUptoRow.holds Try.pinned (OpenSpec.upto witnessCanonicalSpec)

/-- 'regcertlaw19.WitnessTruncated', WHERE WHAT IT READS IS OF BULK AT MOST 1048576: true; the input reads as it did. -/
def witnessTruncatedUptoRow : OpenClaim := { program := "ythehcdajedaefaa", sum := "e2ea42811334fdb25ad7187a68335cb856d0d304d18e085c7f5d83e3b289208a", func := "regcert/regcertlaw19.WitnessTruncated", spec := "witnessTruncated", unfollowed := true, recurses := true, apart := false, narrowed := true }
def WitnessTruncatedUptoSaid : Prop := witnessTruncatedUptoRow.holds Try.pinned (OpenSpec.upto witnessTruncatedSpec)

end Rows
end Go.Proofs.Ythehcdajedaefaa
