/-
  No cell of these rows narrows 'for every input' (looked for: loops, veiled, ifaces, maps, wideKeys, modest, calm, conditions, laid).
  DERIVED. THE GIVEN ROWS OF THIS SEAT. 5 by the template 'for every input the law returns true; each argument reads behind the call as it read before'; 0 by the template 'total and deterministic' (their statements: YtncigbpeempnfaaTotals.lean).
  GIVEN WITH THE SEED: the statements are not yours to turn. If you find one false, say at which input.
  Laid BY PROGRAM, IN A SANDBOX (cutbox-rows.mjs): the forced cells as the released guide's own fill.sh prints them over the translation afab402cc6fa3a32… (all of the seat's roots in one cut). By AI agents, Wed Nov 11 2026. No macro, syntax, notation, axiom, sorry.
-/
import Derived.Test.YtncigbpeempnfaaChecked
import GoSem.Claim
import GoSem.ClaimJoined
import GoSem.ClaimMapViews
import Derived.JoinedTies
import Derived.KernelRfl
namespace Go.Proofs.Ytncigbpeempnfaa
/- THE CELL 'sum', in the pinned program and in every row, IS THE sha256 OF THE DUMP (.gsa) THAT YtncigbpeempnfaaProg.lean LOADS. Nothing in Lean hashes anything: it is a label: what it is worth is what the hold of that sum in a sandbox is worth. -/
noncomputable def Try.pinned : Pinned := { name := "ytncigbpeempnfaa", sum := "afab402cc6fa3a32567a51391d42970ce8d3cdf1c686d0d825dcde573977b1f7", checked := Try.checked }
namespace Rows
def none {H : Type} : Left H := { results := [], args := [] }

/-- 'regcertlaw23.LivenessMatchesReference': WHATEVER THE INPUT: true; the input reads as it did. -/
def livenessMatchesReferenceSpec : ChangeSpec := { name := "livenessMatchesReference", fn := fun _ => fun
  | [d] => { results := [.lit (.bool true)], args := [d] }
  | _ => none }
def livenessMatchesReferenceRow : OpenClaim := { program := "ytncigbpeempnfaa", sum := "afab402cc6fa3a32567a51391d42970ce8d3cdf1c686d0d825dcde573977b1f7", func := "regcert/regcertlaw23.LivenessMatchesReference", spec := "livenessMatchesReference", unfollowed := true, recurses := true, apart := false }
def LivenessMatchesReferenceSaid : Prop := livenessMatchesReferenceRow.holds Try.pinned (OpenSpec.ofChange livenessMatchesReferenceSpec)

/-- ITS FALSE NEIGHBOUR: 'it returns false'. Refute it at one input. -/
def livenessMatchesReferenceWrong : ChangeSpec := { name := "livenessMatchesReference", fn := fun _ => fun
  | [d] => { results := [.lit (.bool false)], args := [d] }
  | _ => none }
def LivenessMatchesReferenceWrongFalsely : Prop := livenessMatchesReferenceRow.holds Try.pinned (OpenSpec.ofChange livenessMatchesReferenceWrong)

/-- 'regcertlaw23.LivenessEquations': WHATEVER THE INPUT: true; the input reads as it did. -/
def livenessEquationsSpec : ChangeSpec := { name := "livenessEquations", fn := fun _ => fun
  | [d] => { results := [.lit (.bool true)], args := [d] }
  | _ => none }
def livenessEquationsRow : OpenClaim := { program := "ytncigbpeempnfaa", sum := "afab402cc6fa3a32567a51391d42970ce8d3cdf1c686d0d825dcde573977b1f7", func := "regcert/regcertlaw23.LivenessEquations", spec := "livenessEquations", unfollowed := true, recurses := true, apart := false }
def LivenessEquationsSaid : Prop := livenessEquationsRow.holds Try.pinned (OpenSpec.ofChange livenessEquationsSpec)

/-- ITS FALSE NEIGHBOUR: 'it returns false'. Refute it at one input. -/
def livenessEquationsWrong : ChangeSpec := { name := "livenessEquations", fn := fun _ => fun
  | [d] => { results := [.lit (.bool false)], args := [d] }
  | _ => none }
def LivenessEquationsWrongFalsely : Prop := livenessEquationsRow.holds Try.pinned (OpenSpec.ofChange livenessEquationsWrong)

/-- 'regcertlaw23.LivenessSound': WHATEVER THE INPUT: true; the input reads as it did. -/
def livenessSoundSpec : ChangeSpec := { name := "livenessSound", fn := fun _ => fun
  | [d1, d2, d3, d4, d5] => { results := [.lit (.bool true)], args := [d1, d2, d3, d4, d5] }
  | _ => none }
def livenessSoundRow : OpenClaim := { program := "ytncigbpeempnfaa", sum := "afab402cc6fa3a32567a51391d42970ce8d3cdf1c686d0d825dcde573977b1f7", func := "regcert/regcertlaw23.LivenessSound", spec := "livenessSound", unfollowed := true, recurses := true, apart := false }
def LivenessSoundSaid : Prop := livenessSoundRow.holds Try.pinned (OpenSpec.ofChange livenessSoundSpec)

/-- ITS FALSE NEIGHBOUR: 'it returns false'. Refute it at one input. -/
def livenessSoundWrong : ChangeSpec := { name := "livenessSound", fn := fun _ => fun
  | [d1, d2, d3, d4, d5] => { results := [.lit (.bool false)], args := [d1, d2, d3, d4, d5] }
  | _ => none }
def LivenessSoundWrongFalsely : Prop := livenessSoundRow.holds Try.pinned (OpenSpec.ofChange livenessSoundWrong)

/-- 'regcertlaw23.LivenessNecessary': WHATEVER THE INPUT: true; the input reads as it did. -/
def livenessNecessarySpec : ChangeSpec := { name := "livenessNecessary", fn := fun _ => fun
  | [d1, d2] => { results := [.lit (.bool true)], args := [d1, d2] }
  | _ => none }
def livenessNecessaryRow : OpenClaim := { program := "ytncigbpeempnfaa", sum := "afab402cc6fa3a32567a51391d42970ce8d3cdf1c686d0d825dcde573977b1f7", func := "regcert/regcertlaw23.LivenessNecessary", spec := "livenessNecessary", unfollowed := true, recurses := true, apart := false }
def LivenessNecessarySaid : Prop := livenessNecessaryRow.holds Try.pinned (OpenSpec.ofChange livenessNecessarySpec)

/-- ITS FALSE NEIGHBOUR: 'it returns false'. Refute it at one input. -/
def livenessNecessaryWrong : ChangeSpec := { name := "livenessNecessary", fn := fun _ => fun
  | [d1, d2] => { results := [.lit (.bool false)], args := [d1, d2] }
  | _ => none }
def LivenessNecessaryWrongFalsely : Prop := livenessNecessaryRow.holds Try.pinned (OpenSpec.ofChange livenessNecessaryWrong)

/-- 'regcertlaw23.LivenessAppended': WHATEVER THE INPUT: true; the input reads as it did. -/
def livenessAppendedSpec : ChangeSpec := { name := "livenessAppended", fn := fun _ => fun
  | [d1, d2] => { results := [.lit (.bool true)], args := [d1, d2] }
  | _ => none }
def livenessAppendedRow : OpenClaim := { program := "ytncigbpeempnfaa", sum := "afab402cc6fa3a32567a51391d42970ce8d3cdf1c686d0d825dcde573977b1f7", func := "regcert/regcertlaw23.LivenessAppended", spec := "livenessAppended", unfollowed := true, recurses := true, apart := false }
def LivenessAppendedSaid : Prop := livenessAppendedRow.holds Try.pinned (OpenSpec.ofChange livenessAppendedSpec)

/-- ITS FALSE NEIGHBOUR: 'it returns false'. Refute it at one input. -/
def livenessAppendedWrong : ChangeSpec := { name := "livenessAppended", fn := fun _ => fun
  | [d1, d2] => { results := [.lit (.bool false)], args := [d1, d2] }
  | _ => none }
def LivenessAppendedWrongFalsely : Prop := livenessAppendedRow.holds Try.pinned (OpenSpec.ofChange livenessAppendedWrong)

/- THE SECOND FORM. 'bulk': how many values and letters a reading holds, each counted each time it is reached (what is shared counts as often as it is met; a slice's spare places count too). A statement '..UptoSaid' is the law's where the arguments, and the package variables that the reading takes, are together of bulk at most 1048576: NARROWER than '..Said'. Prove '..Said' where nothing that the law and all that it calls make is longer than what came in: it says more and counts as full. Else prove '..UptoSaid'. A law counts once. -/
mutual
def uptoBulk {H : Type} : DataW H → Nat
  | .lit (.string bytes) => bytes.length + 1
  | .lit _ => 1
  | .nil => 1
  | .ptr d => uptoBulk d + 1
  | .slice elems spare => uptoBulkAll elems + uptoBulkAll spare + 1
  | .agg parts => uptoBulkAll parts + 1
  | .iface _ d => uptoBulk d + 1
  | .map entries => uptoBulkEntries entries + 1
  | .held _ => 1
def uptoBulkAll {H : Type} : List (DataW H) → Nat
  | [] => 0
  | d :: r => uptoBulk d + uptoBulkAll r
def uptoBulkEntries {H : Type} : List (Lit × DataW H) → Nat
  | [] => 0
  | x :: r => uptoBulkEntry x + uptoBulkEntries r
def uptoBulkEntry {H : Type} : Lit × DataW H → Nat
  | (.string bytes, d) => bytes.length + uptoBulk d + 1
  | (_, d) => uptoBulk d + 1
 end
def uptoSmall : (H : Type) → List (DataW H) → Bool := fun _ ds => decide (uptoBulkAll ds ≤ 1048576)
def OpenSpec.upto (s : _root_.Go.ChangeSpec) : _root_.Go.OpenSpec := { _root_.Go.OpenSpec.ofChange s with cond := some uptoSmall }

/-- 'regcertlaw23.LivenessMatchesReference', WHERE WHAT IT READS IS OF BULK AT MOST 1048576: true; the input reads as it did. -/
def livenessMatchesReferenceUptoRow : OpenClaim := { program := "ytncigbpeempnfaa", sum := "afab402cc6fa3a32567a51391d42970ce8d3cdf1c686d0d825dcde573977b1f7", func := "regcert/regcertlaw23.LivenessMatchesReference", spec := "livenessMatchesReference", unfollowed := true, recurses := true, apart := false, narrowed := true }
def LivenessMatchesReferenceUptoSaid : Prop := livenessMatchesReferenceUptoRow.holds Try.pinned (OpenSpec.upto livenessMatchesReferenceSpec)

/-- 'regcertlaw23.LivenessEquations', WHERE WHAT IT READS IS OF BULK AT MOST 1048576: true; the input reads as it did. -/
def livenessEquationsUptoRow : OpenClaim := { program := "ytncigbpeempnfaa", sum := "afab402cc6fa3a32567a51391d42970ce8d3cdf1c686d0d825dcde573977b1f7", func := "regcert/regcertlaw23.LivenessEquations", spec := "livenessEquations", unfollowed := true, recurses := true, apart := false, narrowed := true }
def LivenessEquationsUptoSaid : Prop := livenessEquationsUptoRow.holds Try.pinned (OpenSpec.upto livenessEquationsSpec)

/-- 'regcertlaw23.LivenessSound', WHERE WHAT IT READS IS OF BULK AT MOST 1048576: true; the input reads as it did. -/
def livenessSoundUptoRow : OpenClaim := { program := "ytncigbpeempnfaa", sum := "afab402cc6fa3a32567a51391d42970ce8d3cdf1c686d0d825dcde573977b1f7", func := "regcert/regcertlaw23.LivenessSound", spec := "livenessSound", unfollowed := true, recurses := true, apart := false, narrowed := true }
def LivenessSoundUptoSaid : Prop := livenessSoundUptoRow.holds Try.pinned (OpenSpec.upto livenessSoundSpec)

/-- 'regcertlaw23.LivenessNecessary', WHERE WHAT IT READS IS OF BULK AT MOST 1048576: true; the input reads as it did. -/
def livenessNecessaryUptoRow : OpenClaim := { program := "ytncigbpeempnfaa", sum := "afab402cc6fa3a32567a51391d42970ce8d3cdf1c686d0d825dcde573977b1f7", func := "regcert/regcertlaw23.LivenessNecessary", spec := "livenessNecessary", unfollowed := true, recurses := true, apart := false, narrowed := true }
def LivenessNecessaryUptoSaid : Prop := livenessNecessaryUptoRow.holds Try.pinned (OpenSpec.upto livenessNecessarySpec)

/-- 'regcertlaw23.LivenessAppended', WHERE WHAT IT READS IS OF BULK AT MOST 1048576: true; the input reads as it did. -/
def livenessAppendedUptoRow : OpenClaim := { program := "ytncigbpeempnfaa", sum := "afab402cc6fa3a32567a51391d42970ce8d3cdf1c686d0d825dcde573977b1f7", func := "regcert/regcertlaw23.LivenessAppended", spec := "livenessAppended", unfollowed := true, recurses := true, apart := false, narrowed := true }
def LivenessAppendedUptoSaid : Prop := livenessAppendedUptoRow.holds Try.pinned (OpenSpec.upto livenessAppendedSpec)

end Rows
end Go.Proofs.Ytncigbpeempnfaa
