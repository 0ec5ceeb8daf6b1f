/-
  No cell of these rows narrows 'for every input' (looked for: loops, veiled, ifaces, maps, wideKeys, modest, calm, conditions, laid).
  DERIVED. THE GIVEN ROWS OF THIS SEAT. 5 by the template 'for every input the law returns true; each argument reads behind the call as it read before'; 0 by the template 'total and deterministic' (their statements: YtjgigdmjciedpaaTotals.lean).
  GIVEN WITH THE SEED: the statements are not yours to turn. If you find one false, say at which input.
  Laid BY PROGRAM, IN A SANDBOX (cutbox-rows.mjs): the forced cells as the released guide's own fill.sh prints them over the translation 7995e2a41f8ed377… (all of the seat's roots in one cut). By AI agents, Wed Nov 11 2026. No macro, syntax, notation, axiom, sorry.
-/
import Derived.Test.YtjgigdmjciedpaaChecked
import GoSem.Claim
import GoSem.ClaimJoined
import GoSem.ClaimMapViews
import Derived.JoinedTies
import Derived.KernelRfl
namespace Go.Proofs.Ytjgigdmjciedpaa
/- THE CELL 'sum', in the pinned program and in every row, IS THE sha256 OF THE DUMP (.gsa) THAT YtjgigdmjciedpaaProg.lean LOADS. Nothing in Lean hashes anything: it is a label: what it is worth is what the hold of that sum in a sandbox is worth. -/
noncomputable def Try.pinned : Pinned := { name := "ytjgigdmjciedpaa", sum := "7995e2a41f8ed37771721debe14075cb99ba637ad14e89f881bf352b1261143b", checked := Try.checked }
namespace Rows
def none {H : Type} : Left H := { results := [], args := [] }

/-- 'regcertlaw02.CursorMatchesReference': WHATEVER THE INPUT: true; the input reads as it did. -/
def cursorMatchesReferenceSpec : ChangeSpec := { name := "cursorMatchesReference", fn := fun _ => fun
  | [d1, d2] => { results := [.lit (.bool true)], args := [d1, d2] }
  | _ => none }
def cursorMatchesReferenceRow : OpenClaim := { program := "ytjgigdmjciedpaa", sum := "7995e2a41f8ed37771721debe14075cb99ba637ad14e89f881bf352b1261143b", func := "regcert/regcertlaw02.CursorMatchesReference", spec := "cursorMatchesReference", unfollowed := true, recurses := true, apart := false }
def CursorMatchesReferenceSaid : Prop := cursorMatchesReferenceRow.holds Try.pinned (OpenSpec.ofChange cursorMatchesReferenceSpec)

/-- ITS FALSE NEIGHBOUR: 'it returns false'. Refute it at one input. -/
def cursorMatchesReferenceWrong : ChangeSpec := { name := "cursorMatchesReference", fn := fun _ => fun
  | [d1, d2] => { results := [.lit (.bool false)], args := [d1, d2] }
  | _ => none }
def CursorMatchesReferenceWrongFalsely : Prop := cursorMatchesReferenceRow.holds Try.pinned (OpenSpec.ofChange cursorMatchesReferenceWrong)

/-- 'regcertlaw02.CursorReads': WHATEVER THE INPUT: true; the input reads as it did. -/
def cursorReadsSpec : ChangeSpec := { name := "cursorReads", fn := fun _ => fun
  | [d1, d2, d3] => { results := [.lit (.bool true)], args := [d1, d2, d3] }
  | _ => none }
def cursorReadsRow : OpenClaim := { program := "ytjgigdmjciedpaa", sum := "7995e2a41f8ed37771721debe14075cb99ba637ad14e89f881bf352b1261143b", func := "regcert/regcertlaw02.CursorReads", spec := "cursorReads", unfollowed := true, recurses := true, apart := false }
def CursorReadsSaid : Prop := cursorReadsRow.holds Try.pinned (OpenSpec.ofChange cursorReadsSpec)

/-- ITS FALSE NEIGHBOUR: 'it returns false'. Refute it at one input. -/
def cursorReadsWrong : ChangeSpec := { name := "cursorReads", fn := fun _ => fun
  | [d1, d2, d3] => { results := [.lit (.bool false)], args := [d1, d2, d3] }
  | _ => none }
def CursorReadsWrongFalsely : Prop := cursorReadsRow.holds Try.pinned (OpenSpec.ofChange cursorReadsWrong)

/-- 'regcertlaw02.CursorStops': WHATEVER THE INPUT: true; the input reads as it did. -/
def cursorStopsSpec : ChangeSpec := { name := "cursorStops", fn := fun _ => fun
  | [d1, d2, d3] => { results := [.lit (.bool true)], args := [d1, d2, d3] }
  | _ => none }
def cursorStopsRow : OpenClaim := { program := "ytjgigdmjciedpaa", sum := "7995e2a41f8ed37771721debe14075cb99ba637ad14e89f881bf352b1261143b", func := "regcert/regcertlaw02.CursorStops", spec := "cursorStops", unfollowed := true, recurses := true, apart := false }
def CursorStopsSaid : Prop := cursorStopsRow.holds Try.pinned (OpenSpec.ofChange cursorStopsSpec)

/-- ITS FALSE NEIGHBOUR: 'it returns false'. Refute it at one input. -/
def cursorStopsWrong : ChangeSpec := { name := "cursorStops", fn := fun _ => fun
  | [d1, d2, d3] => { results := [.lit (.bool false)], args := [d1, d2, d3] }
  | _ => none }
def CursorStopsWrongFalsely : Prop := cursorStopsRow.holds Try.pinned (OpenSpec.ofChange cursorStopsWrong)

/-- 'regcertlaw02.CursorCounts': WHATEVER THE INPUT: true; the input reads as it did. -/
def cursorCountsSpec : ChangeSpec := { name := "cursorCounts", fn := fun _ => fun
  | [d1, d2, d3] => { results := [.lit (.bool true)], args := [d1, d2, d3] }
  | _ => none }
def cursorCountsRow : OpenClaim := { program := "ytjgigdmjciedpaa", sum := "7995e2a41f8ed37771721debe14075cb99ba637ad14e89f881bf352b1261143b", func := "regcert/regcertlaw02.CursorCounts", spec := "cursorCounts", unfollowed := true, recurses := true, apart := false }
def CursorCountsSaid : Prop := cursorCountsRow.holds Try.pinned (OpenSpec.ofChange cursorCountsSpec)

/-- ITS FALSE NEIGHBOUR: 'it returns false'. Refute it at one input. -/
def cursorCountsWrong : ChangeSpec := { name := "cursorCounts", fn := fun _ => fun
  | [d1, d2, d3] => { results := [.lit (.bool false)], args := [d1, d2, d3] }
  | _ => none }
def CursorCountsWrongFalsely : Prop := cursorCountsRow.holds Try.pinned (OpenSpec.ofChange cursorCountsWrong)

/-- 'regcertlaw02.CursorKeeps': WHATEVER THE INPUT: true; the input reads as it did. -/
def cursorKeepsSpec : ChangeSpec := { name := "cursorKeeps", fn := fun _ => fun
  | [d1, d2] => { results := [.lit (.bool true)], args := [d1, d2] }
  | _ => none }
def cursorKeepsRow : OpenClaim := { program := "ytjgigdmjciedpaa", sum := "7995e2a41f8ed37771721debe14075cb99ba637ad14e89f881bf352b1261143b", func := "regcert/regcertlaw02.CursorKeeps", spec := "cursorKeeps", unfollowed := true, recurses := true, apart := false }
def CursorKeepsSaid : Prop := cursorKeepsRow.holds Try.pinned (OpenSpec.ofChange cursorKeepsSpec)

/-- ITS FALSE NEIGHBOUR: 'it returns false'. Refute it at one input. -/
def cursorKeepsWrong : ChangeSpec := { name := "cursorKeeps", fn := fun _ => fun
  | [d1, d2] => { results := [.lit (.bool false)], args := [d1, d2] }
  | _ => none }
def CursorKeepsWrongFalsely : Prop := cursorKeepsRow.holds Try.pinned (OpenSpec.ofChange cursorKeepsWrong)

/- THE SECOND FORM. 'bulk': how many values and letters a reading holds, each counted each time it is reached (what is shared counts as often as it is met; a slice's spare places count too). A statement '..UptoSaid' is the law's where the arguments, and the package variables that the reading takes, are together of bulk at most 1048576: NARROWER than '..Said'. Prove '..Said' where nothing that the law and all that it calls make is longer than what came in: it says more and counts as full. Else prove '..UptoSaid'. A law counts once. -/
mutual
def uptoBulk {H : Type} : DataW H → Nat
  | .lit (.string bytes) => bytes.length + 1
  | .lit _ => 1
  | .nil => 1
  | .ptr d => uptoBulk d + 1
  | .slice elems spare => uptoBulkAll elems + uptoBulkAll spare + 1
  | .agg parts => uptoBulkAll parts + 1
  | .iface _ d => uptoBulk d + 1
  | .map entries => uptoBulkEntries entries + 1
  | .held _ => 1
def uptoBulkAll {H : Type} : List (DataW H) → Nat
  | [] => 0
  | d :: r => uptoBulk d + uptoBulkAll r
def uptoBulkEntries {H : Type} : List (Lit × DataW H) → Nat
  | [] => 0
  | x :: r => uptoBulkEntry x + uptoBulkEntries r
def uptoBulkEntry {H : Type} : Lit × DataW H → Nat
  | (.string bytes, d) => bytes.length + uptoBulk d + 1
  | (_, d) => uptoBulk d + 1
 end
def uptoSmall : (H : Type) → List (DataW H) → Bool := fun _ ds => decide (uptoBulkAll ds ≤ 1048576)
def OpenSpec.upto (s : _root_.Go.ChangeSpec) : _root_.Go.OpenSpec := { _root_.Go.OpenSpec.ofChange s with cond := some uptoSmall }

/-- 'regcertlaw02.CursorMatchesReference', WHERE WHAT IT READS IS OF BULK AT MOST 1048576: true; the input reads as it did. -/
def cursorMatchesReferenceUptoRow : OpenClaim := { program := "ytjgigdmjciedpaa", sum := "7995e2a41f8ed37771721debe14075cb99ba637ad14e89f881bf352b1261143b", func := "regcert/regcertlaw02.CursorMatchesReference", spec := "cursorMatchesReference", unfollowed := true, recurses := true, apart := false, narrowed := true }
def CursorMatchesReferenceUptoSaid : Prop := cursorMatchesReferenceUptoRow.holds Try.pinned (OpenSpec.upto cursorMatchesReferenceSpec)

/-- 'regcertlaw02.CursorReads', WHERE WHAT IT READS IS OF BULK AT MOST 1048576: true; the input reads as it did. -/
def cursorReadsUptoRow : OpenClaim := { program := "ytjgigdmjciedpaa", sum := "7995e2a41f8ed37771721debe14075cb99ba637ad14e89f881bf352b1261143b", func := "regcert/regcertlaw02.CursorReads", spec := "cursorReads", unfollowed := true, recurses := true, apart := false, narrowed := true }
def CursorReadsUptoSaid : Prop := cursorReadsUptoRow.holds Try.pinned (OpenSpec.upto cursorReadsSpec)

/-- 'regcertlaw02.CursorStops', WHERE WHAT IT READS IS OF BULK AT MOST 1048576: true; the input reads as it did. -/
def cursorStopsUptoRow : OpenClaim := { program := "ytjgigdmjciedpaa", sum := "7995e2a41f8ed37771721debe14075cb99ba637ad14e89f881bf352b1261143b", func := "regcert/regcertlaw02.CursorStops", spec := "cursorStops", unfollowed := true, recurses := true, apart := false, narrowed := true }
def CursorStopsUptoSaid : Prop := cursorStopsUptoRow.holds Try.pinned (OpenSpec.upto cursorStopsSpec)

/-- 'regcertlaw02.CursorCounts', WHERE WHAT IT READS IS OF BULK AT MOST 1048576: true; the input reads as it did. -/
def cursorCountsUptoRow : OpenClaim := { program := "ytjgigdmjciedpaa", sum := "7995e2a41f8ed37771721debe14075cb99ba637ad14e89f881bf352b1261143b", func := "regcert/regcertlaw02.CursorCounts", spec := "cursorCounts", unfollowed := true, recurses := true, apart := false, narrowed := true }
def CursorCountsUptoSaid : Prop := cursorCountsUptoRow.holds Try.pinned (OpenSpec.upto cursorCountsSpec)

/-- 'regcertlaw02.CursorKeeps', WHERE WHAT IT READS IS OF BULK AT MOST 1048576: true; the input reads as it did. -/
def cursorKeepsUptoRow : OpenClaim := { program := "ytjgigdmjciedpaa", sum := "7995e2a41f8ed37771721debe14075cb99ba637ad14e89f881bf352b1261143b", func := "regcert/regcertlaw02.CursorKeeps", spec := "cursorKeeps", unfollowed := true, recurses := true, apart := false, narrowed := true }
def CursorKeepsUptoSaid : Prop := cursorKeepsUptoRow.holds Try.pinned (OpenSpec.upto cursorKeepsSpec)

end Rows
end Go.Proofs.Ytjgigdmjciedpaa
