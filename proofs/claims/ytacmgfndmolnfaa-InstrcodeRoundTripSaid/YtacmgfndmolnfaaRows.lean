/-
  No cell of these rows narrows 'for every input' (looked for: loops, veiled, ifaces, maps, wideKeys, modest, calm, conditions, laid).
  DERIVED. THE GIVEN ROWS OF THIS SEAT. 4 by the template 'for every input the law returns true; each argument reads behind the call as it read before'; 0 by the template 'total and deterministic' (their statements: YtacmgfndmolnfaaTotals.lean).
  GIVEN WITH THE SEED: the statements are not yours to turn. If you find one false, say at which input.
  Laid BY PROGRAM, IN A SANDBOX (cutbox-rows.mjs): the forced cells as the released guide's own fill.sh prints them over the translation 11e4e735e1379047… (all of the seat's roots in one cut). By AI agents, Wed Nov 11 2026. No macro, syntax, notation, axiom, sorry.
-/
import Derived.Test.YtacmgfndmolnfaaChecked
import GoSem.Claim
import GoSem.ClaimJoined
import GoSem.ClaimMapViews
import Derived.JoinedTies
import Derived.KernelRfl
namespace Go.Proofs.Ytacmgfndmolnfaa
/- THE CELL 'sum', in the pinned program and in every row, IS THE sha256 OF THE DUMP (.gsa) THAT YtacmgfndmolnfaaProg.lean LOADS. Nothing in Lean hashes anything: it is a label: what it is worth is what the hold of that sum in a sandbox is worth. -/
noncomputable def Try.pinned : Pinned := { name := "ytacmgfndmolnfaa", sum := "11e4e735e13790472d95fba722eae7d7815020445d43454b28b6cb09a74db040", checked := Try.checked }
namespace Rows
def none {H : Type} : Left H := { results := [], args := [] }

/-- 'regcertlaw17.InstrcodeMatchesReference': WHATEVER THE INPUT: true; the input reads as it did. -/
def instrcodeMatchesReferenceSpec : ChangeSpec := { name := "instrcodeMatchesReference", fn := fun _ => fun
  | [d1, d2, d3, d4] => { results := [.lit (.bool true)], args := [d1, d2, d3, d4] }
  | _ => none }
def instrcodeMatchesReferenceRow : OpenClaim := { program := "ytacmgfndmolnfaa", sum := "11e4e735e13790472d95fba722eae7d7815020445d43454b28b6cb09a74db040", func := "regcert/regcertlaw17.InstrcodeMatchesReference", spec := "instrcodeMatchesReference", unfollowed := true, recurses := true, apart := false }
def InstrcodeMatchesReferenceSaid : Prop := instrcodeMatchesReferenceRow.holds Try.pinned (OpenSpec.ofChange instrcodeMatchesReferenceSpec)

/-- ITS FALSE NEIGHBOUR: 'it returns false'. Refute it at one input. -/
def instrcodeMatchesReferenceWrong : ChangeSpec := { name := "instrcodeMatchesReference", fn := fun _ => fun
  | [d1, d2, d3, d4] => { results := [.lit (.bool false)], args := [d1, d2, d3, d4] }
  | _ => none }
def InstrcodeMatchesReferenceWrongFalsely : Prop := instrcodeMatchesReferenceRow.holds Try.pinned (OpenSpec.ofChange instrcodeMatchesReferenceWrong)

/-- 'regcertlaw17.InstrcodeRoundTrip': WHATEVER THE INPUT: true; the input reads as it did. -/
def instrcodeRoundTripSpec : ChangeSpec := { name := "instrcodeRoundTrip", fn := fun _ => fun
  | [d1, d2, d3, d4, d5, d6, d7] => { results := [.lit (.bool true)], args := [d1, d2, d3, d4, d5, d6, d7] }
  | _ => none }
def instrcodeRoundTripRow : OpenClaim := { program := "ytacmgfndmolnfaa", sum := "11e4e735e13790472d95fba722eae7d7815020445d43454b28b6cb09a74db040", func := "regcert/regcertlaw17.InstrcodeRoundTrip", spec := "instrcodeRoundTrip", unfollowed := true, recurses := true, apart := false }
def InstrcodeRoundTripSaid : Prop := instrcodeRoundTripRow.holds Try.pinned (OpenSpec.ofChange instrcodeRoundTripSpec)

/-- ITS FALSE NEIGHBOUR: 'it returns false'. Refute it at one input. -/
def instrcodeRoundTripWrong : ChangeSpec := { name := "instrcodeRoundTrip", fn := fun _ => fun
  | [d1, d2, d3, d4, d5, d6, d7] => { results := [.lit (.bool false)], args := [d1, d2, d3, d4, d5, d6, d7] }
  | _ => none }
def InstrcodeRoundTripWrongFalsely : Prop := instrcodeRoundTripRow.holds Try.pinned (OpenSpec.ofChange instrcodeRoundTripWrong)

/-- 'regcertlaw17.InstrcodeCanonical': WHATEVER THE INPUT: true; the input reads as it did. -/
def instrcodeCanonicalSpec : ChangeSpec := { name := "instrcodeCanonical", fn := fun _ => fun
  | [d1, d2, d3, d4] => { results := [.lit (.bool true)], args := [d1, d2, d3, d4] }
  | _ => none }
def instrcodeCanonicalRow : OpenClaim := { program := "ytacmgfndmolnfaa", sum := "11e4e735e13790472d95fba722eae7d7815020445d43454b28b6cb09a74db040", func := "regcert/regcertlaw17.InstrcodeCanonical", spec := "instrcodeCanonical", unfollowed := true, recurses := true, apart := false }
def InstrcodeCanonicalSaid : Prop := instrcodeCanonicalRow.holds Try.pinned (OpenSpec.ofChange instrcodeCanonicalSpec)

/-- ITS FALSE NEIGHBOUR: 'it returns false'. Refute it at one input. -/
def instrcodeCanonicalWrong : ChangeSpec := { name := "instrcodeCanonical", fn := fun _ => fun
  | [d1, d2, d3, d4] => { results := [.lit (.bool false)], args := [d1, d2, d3, d4] }
  | _ => none }
def InstrcodeCanonicalWrongFalsely : Prop := instrcodeCanonicalRow.holds Try.pinned (OpenSpec.ofChange instrcodeCanonicalWrong)

/-- 'regcertlaw17.InstrcodeTruncated': WHATEVER THE INPUT: true; the input reads as it did. -/
def instrcodeTruncatedSpec : ChangeSpec := { name := "instrcodeTruncated", fn := fun _ => fun
  | [d1, d2, d3, d4] => { results := [.lit (.bool true)], args := [d1, d2, d3, d4] }
  | _ => none }
def instrcodeTruncatedRow : OpenClaim := { program := "ytacmgfndmolnfaa", sum := "11e4e735e13790472d95fba722eae7d7815020445d43454b28b6cb09a74db040", func := "regcert/regcertlaw17.InstrcodeTruncated", spec := "instrcodeTruncated", unfollowed := true, recurses := true, apart := false }
def InstrcodeTruncatedSaid : Prop := instrcodeTruncatedRow.holds Try.pinned (OpenSpec.ofChange instrcodeTruncatedSpec)

/-- ITS FALSE NEIGHBOUR: 'it returns false'. Refute it at one input. -/
def instrcodeTruncatedWrong : ChangeSpec := { name := "instrcodeTruncated", fn := fun _ => fun
  | [d1, d2, d3, d4] => { results := [.lit (.bool false)], args := [d1, d2, d3, d4] }
  | _ => none }
def InstrcodeTruncatedWrongFalsely : Prop := instrcodeTruncatedRow.holds Try.pinned (OpenSpec.ofChange instrcodeTruncatedWrong)

/- THE SECOND FORM. 'bulk': how many values and letters a reading holds, each counted each time it is reached (what is shared counts as often as it is met; a slice's spare places count too). A statement '..UptoSaid' is the law's where the arguments, and the package variables that the reading takes, are together of bulk at most 1048576: NARROWER than '..Said'. Prove '..Said' where nothing that the law and all that it calls make is longer than what came in: it says more and counts as full. Else prove '..UptoSaid'. A law counts once. -/
mutual
def uptoBulk {H : Type} : DataW H → Nat
  | .lit (.string bytes) => bytes.length + 1
  | .lit _ => 1
  | .nil => 1
  | .ptr d => uptoBulk d + 1
  | .slice elems spare => uptoBulkAll elems + uptoBulkAll spare + 1
  | .agg parts => uptoBulkAll parts + 1
  | .iface _ d => uptoBulk d + 1
  | .map entries => uptoBulkEntries entries + 1
  | .held _ => 1
def uptoBulkAll {H : Type} : List (DataW H) → Nat
  | [] => 0
  | d :: r => uptoBulk d + uptoBulkAll r
def uptoBulkEntries {H : Type} : List (Lit × DataW H) → Nat
  | [] => 0
  | x :: r => uptoBulkEntry x + uptoBulkEntries r
def uptoBulkEntry {H : Type} : Lit × DataW H → Nat
  | (.string bytes, d) => bytes.length + uptoBulk d + 1
  | (_, d) => uptoBulk d + 1
 end
def uptoSmall : (H : Type) → List (DataW H) → Bool := fun _ ds => decide (uptoBulkAll ds ≤ 1048576)
def OpenSpec.upto (s : _root_.Go.ChangeSpec) : _root_.Go.OpenSpec := { _root_.Go.OpenSpec.ofChange s with cond := some uptoSmall }

/-- 'regcertlaw17.InstrcodeMatchesReference', WHERE WHAT IT READS IS OF BULK AT MOST 1048576: true; the input reads as it did. -/
def instrcodeMatchesReferenceUptoRow : OpenClaim := { program := "ytacmgfndmolnfaa", sum := "11e4e735e13790472d95fba722eae7d7815020445d43454b28b6cb09a74db040", func := "regcert/regcertlaw17.InstrcodeMatchesReference", spec := "instrcodeMatchesReference", unfollowed := true, recurses := true, apart := false, narrowed := true }
def InstrcodeMatchesReferenceUptoSaid : Prop := instrcodeMatchesReferenceUptoRow.holds Try.pinned (OpenSpec.upto instrcodeMatchesReferenceSpec)

/-- 'regcertlaw17.InstrcodeRoundTrip', WHERE WHAT IT READS IS OF BULK AT MOST 1048576: true; the input reads as it did. -/
def instrcodeRoundTripUptoRow : OpenClaim := { program := "ytacmgfndmolnfaa", sum := "11e4e735e13790472d95fba722eae7d7815020445d43454b28b6cb09a74db040", func := "regcert/regcertlaw17.InstrcodeRoundTrip", spec := "instrcodeRoundTrip", unfollowed := true, recurses := true, apart := false, narrowed := true }
def InstrcodeRoundTripUptoSaid : Prop := instrcodeRoundTripUptoRow.holds Try.pinned (OpenSpec.upto instrcodeRoundTripSpec)

/-- 'regcertlaw17.InstrcodeCanonical', WHERE WHAT IT READS IS OF BULK AT MOST 1048576: true; the input reads as it did. -/
def instrcodeCanonicalUptoRow : OpenClaim := { program := "ytacmgfndmolnfaa", sum := "11e4e735e13790472d95fba722eae7d7815020445d43454b28b6cb09a74db040", func := "regcert/regcertlaw17.InstrcodeCanonical", spec := "instrcodeCanonical", unfollowed := true, recurses := true, apart := false, narrowed := true }
def InstrcodeCanonicalUptoSaid : Prop := instrcodeCanonicalUptoRow.holds Try.pinned (OpenSpec.upto instrcodeCanonicalSpec)

/-- 'regcertlaw17.InstrcodeTruncated', WHERE WHAT IT READS IS OF BULK AT MOST 1048576: true; the input reads as it did. -/
def instrcodeTruncatedUptoRow : OpenClaim := { program := "ytacmgfndmolnfaa", sum := "11e4e735e13790472d95fba722eae7d7815020445d43454b28b6cb09a74db040", func := "regcert/regcertlaw17.InstrcodeTruncated", spec := "instrcodeTruncated", unfollowed := true, recurses := true, apart := false, narrowed := true }
def InstrcodeTruncatedUptoSaid : Prop := instrcodeTruncatedUptoRow.holds Try.pinned (OpenSpec.upto instrcodeTruncatedSpec)

end Rows
end Go.Proofs.Ytacmgfndmolnfaa
