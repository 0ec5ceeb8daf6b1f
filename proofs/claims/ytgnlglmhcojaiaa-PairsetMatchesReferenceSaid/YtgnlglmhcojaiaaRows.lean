/-
  No cell of these rows narrows 'for every input' (looked for: loops, veiled, ifaces, maps, wideKeys, modest, calm, conditions, laid).
  DERIVED. THE GIVEN ROWS OF THIS SEAT. 6 by the template 'for every input the law returns true; each argument reads behind the call as it read before'; 0 by the template 'total and deterministic' (their statements: YtgnlglmhcojaiaaTotals.lean).
  GIVEN WITH THE SEED: the statements are not yours to turn. If you find one false, say at which input.
  Laid BY PROGRAM, IN A SANDBOX (cutbox-rows.mjs): the forced cells as the released guide's own fill.sh prints them over the translation ba9603f0b7617060… (all of the seat's roots in one cut). By AI agents, Wed Nov 11 2026. No macro, syntax, notation, axiom, sorry.
-/
import Derived.Test.YtgnlglmhcojaiaaChecked
import GoSem.Claim
import GoSem.ClaimJoined
import GoSem.ClaimMapViews
import Derived.JoinedTies
import Derived.KernelRfl
namespace Go.Proofs.Ytgnlglmhcojaiaa
/- THE CELL 'sum', in the pinned program and in every row, IS THE sha256 OF THE DUMP (.gsa) THAT YtgnlglmhcojaiaaProg.lean LOADS. Nothing in Lean hashes anything: it is a label: what it is worth is what the hold of that sum in a sandbox is worth. -/
noncomputable def Try.pinned : Pinned := { name := "ytgnlglmhcojaiaa", sum := "ba9603f0b76170608039fa4cfe651bce7634063b459b77d2a4127298872c6814", checked := Try.checked }
namespace Rows
def none {H : Type} : Left H := { results := [], args := [] }

/-- 'regcertlaw11.PairsetMatchesReference': WHATEVER THE INPUT: true; the input reads as it did. -/
def pairsetMatchesReferenceSpec : ChangeSpec := { name := "pairsetMatchesReference", fn := fun _ => fun
  | [d1, d2, d3] => { results := [.lit (.bool true)], args := [d1, d2, d3] }
  | _ => none }
def pairsetMatchesReferenceRow : OpenClaim := { program := "ytgnlglmhcojaiaa", sum := "ba9603f0b76170608039fa4cfe651bce7634063b459b77d2a4127298872c6814", func := "regcert/regcertlaw11.PairsetMatchesReference", spec := "pairsetMatchesReference", unfollowed := true, recurses := true, apart := false }
def PairsetMatchesReferenceSaid : Prop := pairsetMatchesReferenceRow.holds Try.pinned (OpenSpec.ofChange pairsetMatchesReferenceSpec)

/-- ITS FALSE NEIGHBOUR: 'it returns false'. Refute it at one input. -/
def pairsetMatchesReferenceWrong : ChangeSpec := { name := "pairsetMatchesReference", fn := fun _ => fun
  | [d1, d2, d3] => { results := [.lit (.bool false)], args := [d1, d2, d3] }
  | _ => none }
def PairsetMatchesReferenceWrongFalsely : Prop := pairsetMatchesReferenceRow.holds Try.pinned (OpenSpec.ofChange pairsetMatchesReferenceWrong)

/-- 'regcertlaw11.PairsetMatchesSets': WHATEVER THE INPUT: true; the input reads as it did. -/
def pairsetMatchesSetsSpec : ChangeSpec := { name := "pairsetMatchesSets", fn := fun _ => fun
  | [d1, d2] => { results := [.lit (.bool true)], args := [d1, d2] }
  | _ => none }
def pairsetMatchesSetsRow : OpenClaim := { program := "ytgnlglmhcojaiaa", sum := "ba9603f0b76170608039fa4cfe651bce7634063b459b77d2a4127298872c6814", func := "regcert/regcertlaw11.PairsetMatchesSets", spec := "pairsetMatchesSets", unfollowed := true, recurses := true, apart := false }
def PairsetMatchesSetsSaid : Prop := pairsetMatchesSetsRow.holds Try.pinned (OpenSpec.ofChange pairsetMatchesSetsSpec)

/-- ITS FALSE NEIGHBOUR: 'it returns false'. Refute it at one input. -/
def pairsetMatchesSetsWrong : ChangeSpec := { name := "pairsetMatchesSets", fn := fun _ => fun
  | [d1, d2] => { results := [.lit (.bool false)], args := [d1, d2] }
  | _ => none }
def PairsetMatchesSetsWrongFalsely : Prop := pairsetMatchesSetsRow.holds Try.pinned (OpenSpec.ofChange pairsetMatchesSetsWrong)

/-- 'regcertlaw11.PairsetOrder': WHATEVER THE INPUT: true; the input reads as it did. -/
def pairsetOrderSpec : ChangeSpec := { name := "pairsetOrder", fn := fun _ => fun
  | [d1, d2, d3] => { results := [.lit (.bool true)], args := [d1, d2, d3] }
  | _ => none }
def pairsetOrderRow : OpenClaim := { program := "ytgnlglmhcojaiaa", sum := "ba9603f0b76170608039fa4cfe651bce7634063b459b77d2a4127298872c6814", func := "regcert/regcertlaw11.PairsetOrder", spec := "pairsetOrder", unfollowed := true, recurses := true, apart := false }
def PairsetOrderSaid : Prop := pairsetOrderRow.holds Try.pinned (OpenSpec.ofChange pairsetOrderSpec)

/-- ITS FALSE NEIGHBOUR: 'it returns false'. Refute it at one input. -/
def pairsetOrderWrong : ChangeSpec := { name := "pairsetOrder", fn := fun _ => fun
  | [d1, d2, d3] => { results := [.lit (.bool false)], args := [d1, d2, d3] }
  | _ => none }
def PairsetOrderWrongFalsely : Prop := pairsetOrderRow.holds Try.pinned (OpenSpec.ofChange pairsetOrderWrong)

/-- 'regcertlaw11.PairsetDrops': WHATEVER THE INPUT: true; the input reads as it did. -/
def pairsetDropsSpec : ChangeSpec := { name := "pairsetDrops", fn := fun _ => fun
  | [d1, d2, d3] => { results := [.lit (.bool true)], args := [d1, d2, d3] }
  | _ => none }
def pairsetDropsRow : OpenClaim := { program := "ytgnlglmhcojaiaa", sum := "ba9603f0b76170608039fa4cfe651bce7634063b459b77d2a4127298872c6814", func := "regcert/regcertlaw11.PairsetDrops", spec := "pairsetDrops", unfollowed := true, recurses := true, apart := false }
def PairsetDropsSaid : Prop := pairsetDropsRow.holds Try.pinned (OpenSpec.ofChange pairsetDropsSpec)

/-- ITS FALSE NEIGHBOUR: 'it returns false'. Refute it at one input. -/
def pairsetDropsWrong : ChangeSpec := { name := "pairsetDrops", fn := fun _ => fun
  | [d1, d2, d3] => { results := [.lit (.bool false)], args := [d1, d2, d3] }
  | _ => none }
def PairsetDropsWrongFalsely : Prop := pairsetDropsRow.holds Try.pinned (OpenSpec.ofChange pairsetDropsWrong)

/-- 'regcertlaw11.PairsetSubsets': WHATEVER THE INPUT: true; the input reads as it did. -/
def pairsetSubsetsSpec : ChangeSpec := { name := "pairsetSubsets", fn := fun _ => fun
  | [d1, d2, d3] => { results := [.lit (.bool true)], args := [d1, d2, d3] }
  | _ => none }
def pairsetSubsetsRow : OpenClaim := { program := "ytgnlglmhcojaiaa", sum := "ba9603f0b76170608039fa4cfe651bce7634063b459b77d2a4127298872c6814", func := "regcert/regcertlaw11.PairsetSubsets", spec := "pairsetSubsets", unfollowed := true, recurses := true, apart := false }
def PairsetSubsetsSaid : Prop := pairsetSubsetsRow.holds Try.pinned (OpenSpec.ofChange pairsetSubsetsSpec)

/-- ITS FALSE NEIGHBOUR: 'it returns false'. Refute it at one input. -/
def pairsetSubsetsWrong : ChangeSpec := { name := "pairsetSubsets", fn := fun _ => fun
  | [d1, d2, d3] => { results := [.lit (.bool false)], args := [d1, d2, d3] }
  | _ => none }
def PairsetSubsetsWrongFalsely : Prop := pairsetSubsetsRow.holds Try.pinned (OpenSpec.ofChange pairsetSubsetsWrong)

/-- 'regcertlaw11.PairsetKeeps': WHATEVER THE INPUT: true; the input reads as it did. -/
def pairsetKeepsSpec : ChangeSpec := { name := "pairsetKeeps", fn := fun _ => fun
  | [d1, d2, d3] => { results := [.lit (.bool true)], args := [d1, d2, d3] }
  | _ => none }
def pairsetKeepsRow : OpenClaim := { program := "ytgnlglmhcojaiaa", sum := "ba9603f0b76170608039fa4cfe651bce7634063b459b77d2a4127298872c6814", func := "regcert/regcertlaw11.PairsetKeeps", spec := "pairsetKeeps", unfollowed := true, recurses := true, apart := false }
def PairsetKeepsSaid : Prop := pairsetKeepsRow.holds Try.pinned (OpenSpec.ofChange pairsetKeepsSpec)

/-- ITS FALSE NEIGHBOUR: 'it returns false'. Refute it at one input. -/
def pairsetKeepsWrong : ChangeSpec := { name := "pairsetKeeps", fn := fun _ => fun
  | [d1, d2, d3] => { results := [.lit (.bool false)], args := [d1, d2, d3] }
  | _ => none }
def PairsetKeepsWrongFalsely : Prop := pairsetKeepsRow.holds Try.pinned (OpenSpec.ofChange pairsetKeepsWrong)

/- THE SECOND FORM. 'bulk': how many values and letters a reading holds, each counted each time it is reached (what is shared counts as often as it is met; a slice's spare places count too). A statement '..UptoSaid' is the law's where the arguments, and the package variables that the reading takes, are together of bulk at most 1048576: NARROWER than '..Said'. Prove '..Said' where nothing that the law and all that it calls make is longer than what came in: it says more and counts as full. Else prove '..UptoSaid'. A law counts once. -/
mutual
def uptoBulk {H : Type} : DataW H → Nat
  | .lit (.string bytes) => bytes.length + 1
  | .lit _ => 1
  | .nil => 1
  | .ptr d => uptoBulk d + 1
  | .slice elems spare => uptoBulkAll elems + uptoBulkAll spare + 1
  | .agg parts => uptoBulkAll parts + 1
  | .iface _ d => uptoBulk d + 1
  | .map entries => uptoBulkEntries entries + 1
  | .held _ => 1
def uptoBulkAll {H : Type} : List (DataW H) → Nat
  | [] => 0
  | d :: r => uptoBulk d + uptoBulkAll r
def uptoBulkEntries {H : Type} : List (Lit × DataW H) → Nat
  | [] => 0
  | x :: r => uptoBulkEntry x + uptoBulkEntries r
def uptoBulkEntry {H : Type} : Lit × DataW H → Nat
  | (.string bytes, d) => bytes.length + uptoBulk d + 1
  | (_, d) => uptoBulk d + 1
 end
def uptoSmall : (H : Type) → List (DataW H) → Bool := fun _ ds => decide (uptoBulkAll ds ≤ 1048576)
def OpenSpec.upto (s : _root_.Go.ChangeSpec) : _root_.Go.OpenSpec := { _root_.Go.OpenSpec.ofChange s with cond := some uptoSmall }

/-- 'regcertlaw11.PairsetMatchesReference', WHERE WHAT IT READS IS OF BULK AT MOST 1048576: true; the input reads as it did. -/
def pairsetMatchesReferenceUptoRow : OpenClaim := { program := "ytgnlglmhcojaiaa", sum := "ba9603f0b76170608039fa4cfe651bce7634063b459b77d2a4127298872c6814", func := "regcert/regcertlaw11.PairsetMatchesReference", spec := "pairsetMatchesReference", unfollowed := true, recurses := true, apart := false, narrowed := true }
def PairsetMatchesReferenceUptoSaid : Prop := pairsetMatchesReferenceUptoRow.holds Try.pinned (OpenSpec.upto pairsetMatchesReferenceSpec)

/-- 'regcertlaw11.PairsetMatchesSets', WHERE WHAT IT READS IS OF BULK AT MOST 1048576: true; the input reads as it did. -/
def pairsetMatchesSetsUptoRow : OpenClaim := { program := "ytgnlglmhcojaiaa", sum := "ba9603f0b76170608039fa4cfe651bce7634063b459b77d2a4127298872c6814", func := "regcert/regcertlaw11.PairsetMatchesSets", spec := "pairsetMatchesSets", unfollowed := true, recurses := true, apart := false, narrowed := true }
def PairsetMatchesSetsUptoSaid : Prop := pairsetMatchesSetsUptoRow.holds Try.pinned (OpenSpec.upto pairsetMatchesSetsSpec)

/-- 'regcertlaw11.PairsetOrder', WHERE WHAT IT READS IS OF BULK AT MOST 1048576: true; the input reads as it did. -/
def pairsetOrderUptoRow : OpenClaim := { program := "ytgnlglmhcojaiaa", sum := "ba9603f0b76170608039fa4cfe651bce7634063b459b77d2a4127298872c6814", func := "regcert/regcertlaw11.PairsetOrder", spec := "pairsetOrder", unfollowed := true, recurses := true, apart := false, narrowed := true }
def PairsetOrderUptoSaid : Prop := pairsetOrderUptoRow.holds Try.pinned (OpenSpec.upto pairsetOrderSpec)

/-- 'regcertlaw11.PairsetDrops', WHERE WHAT IT READS IS OF BULK AT MOST 1048576: true; the input reads as it did. -/
def pairsetDropsUptoRow : OpenClaim := { program := "ytgnlglmhcojaiaa", sum := "ba9603f0b76170608039fa4cfe651bce7634063b459b77d2a4127298872c6814", func := "regcert/regcertlaw11.PairsetDrops", spec := "pairsetDrops", unfollowed := true, recurses := true, apart := false, narrowed := true }
def PairsetDropsUptoSaid : Prop := pairsetDropsUptoRow.holds Try.pinned (OpenSpec.upto pairsetDropsSpec)

/-- 'regcertlaw11.PairsetSubsets', WHERE WHAT IT READS IS OF BULK AT MOST 1048576: true; the input reads as it did. -/
def pairsetSubsetsUptoRow : OpenClaim := { program := "ytgnlglmhcojaiaa", sum := "ba9603f0b76170608039fa4cfe651bce7634063b459b77d2a4127298872c6814", func := "regcert/regcertlaw11.PairsetSubsets", spec := "pairsetSubsets", unfollowed := true, recurses := true, apart := false, narrowed := true }
def PairsetSubsetsUptoSaid : Prop := pairsetSubsetsUptoRow.holds Try.pinned (OpenSpec.upto pairsetSubsetsSpec)

/-- 'regcertlaw11.PairsetKeeps', WHERE WHAT IT READS IS OF BULK AT MOST 1048576: true; the input reads as it did. -/
def pairsetKeepsUptoRow : OpenClaim := { program := "ytgnlglmhcojaiaa", sum := "ba9603f0b76170608039fa4cfe651bce7634063b459b77d2a4127298872c6814", func := "regcert/regcertlaw11.PairsetKeeps", spec := "pairsetKeeps", unfollowed := true, recurses := true, apart := false, narrowed := true }
def PairsetKeepsUptoSaid : Prop := pairsetKeepsUptoRow.holds Try.pinned (OpenSpec.upto pairsetKeepsSpec)

end Rows
end Go.Proofs.Ytgnlglmhcojaiaa
