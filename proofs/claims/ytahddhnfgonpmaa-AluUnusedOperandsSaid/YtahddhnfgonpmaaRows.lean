/-
  No cell of these rows narrows 'for every input' (looked for: loops, veiled, ifaces, maps, wideKeys, modest, calm, conditions, laid).
  DERIVED. THE GIVEN ROWS OF THIS SEAT. 5 by the template 'for every input the law returns true; each argument reads behind the call as it read before'; 0 by the template 'total and deterministic' (their statements: YtahddhnfgonpmaaTotals.lean).
  GIVEN WITH THE SEED: the statements are not yours to turn. If you find one false, say at which input.
  Laid BY PROGRAM, IN A SANDBOX (cutbox-rows.mjs): the forced cells as the released guide's own fill.sh prints them over the translation f8bd0f4fb5a3fce3… (all of the seat's roots in one cut). By AI agents, Wed Nov 11 2026. No macro, syntax, notation, axiom, sorry.
-/
import Derived.Test.YtahddhnfgonpmaaChecked
import GoSem.Claim
import GoSem.ClaimJoined
import GoSem.ClaimMapViews
import Derived.JoinedTies
import Derived.KernelRfl
namespace Go.Proofs.Ytahddhnfgonpmaa
/- THE CELL 'sum', in the pinned program and in every row, IS THE sha256 OF THE DUMP (.gsa) THAT YtahddhnfgonpmaaProg.lean LOADS. Nothing in Lean hashes anything: it is a label: what it is worth is what the hold of that sum in a sandbox is worth. -/
noncomputable def Try.pinned : Pinned := { name := "ytahddhnfgonpmaa", sum := "f8bd0f4fb5a3fce3db27cbd81a9e34a851dff23d0d19d3397a95789d8c291c03", checked := Try.checked }
namespace Rows
def none {H : Type} : Left H := { results := [], args := [] }

/-- 'regcertlaw06.AluMatchesReference': WHATEVER THE INPUT: true; the input reads as it did. -/
def aluMatchesReferenceSpec : ChangeSpec := { name := "aluMatchesReference", fn := fun _ => fun
  | [d1, d2, d3, d4] => { results := [.lit (.bool true)], args := [d1, d2, d3, d4] }
  | _ => none }
def aluMatchesReferenceRow : OpenClaim := { program := "ytahddhnfgonpmaa", sum := "f8bd0f4fb5a3fce3db27cbd81a9e34a851dff23d0d19d3397a95789d8c291c03", func := "regcert/regcertlaw06.AluMatchesReference", spec := "aluMatchesReference", unfollowed := true, recurses := true, apart := false }
def AluMatchesReferenceSaid : Prop := aluMatchesReferenceRow.holds Try.pinned (OpenSpec.ofChange aluMatchesReferenceSpec)

/-- ITS FALSE NEIGHBOUR: 'it returns false'. Refute it at one input. -/
def aluMatchesReferenceWrong : ChangeSpec := { name := "aluMatchesReference", fn := fun _ => fun
  | [d1, d2, d3, d4] => { results := [.lit (.bool false)], args := [d1, d2, d3, d4] }
  | _ => none }
def AluMatchesReferenceWrongFalsely : Prop := aluMatchesReferenceRow.holds Try.pinned (OpenSpec.ofChange aluMatchesReferenceWrong)

/-- 'regcertlaw06.AluUnusedOperands': WHATEVER THE INPUT: true; the input reads as it did. -/
def aluUnusedOperandsSpec : ChangeSpec := { name := "aluUnusedOperands", fn := fun _ => fun
  | [d1, d2, d3, d4, d5] => { results := [.lit (.bool true)], args := [d1, d2, d3, d4, d5] }
  | _ => none }
def aluUnusedOperandsRow : OpenClaim := { program := "ytahddhnfgonpmaa", sum := "f8bd0f4fb5a3fce3db27cbd81a9e34a851dff23d0d19d3397a95789d8c291c03", func := "regcert/regcertlaw06.AluUnusedOperands", spec := "aluUnusedOperands", unfollowed := true, recurses := true, apart := false }
def AluUnusedOperandsSaid : Prop := aluUnusedOperandsRow.holds Try.pinned (OpenSpec.ofChange aluUnusedOperandsSpec)

/-- ITS FALSE NEIGHBOUR: 'it returns false'. Refute it at one input. -/
def aluUnusedOperandsWrong : ChangeSpec := { name := "aluUnusedOperands", fn := fun _ => fun
  | [d1, d2, d3, d4, d5] => { results := [.lit (.bool false)], args := [d1, d2, d3, d4, d5] }
  | _ => none }
def AluUnusedOperandsWrongFalsely : Prop := aluUnusedOperandsRow.holds Try.pinned (OpenSpec.ofChange aluUnusedOperandsWrong)

/-- 'regcertlaw06.AluDivision': WHATEVER THE INPUT: true; the input reads as it did. -/
def aluDivisionSpec : ChangeSpec := { name := "aluDivision", fn := fun _ => fun
  | [d1, d2] => { results := [.lit (.bool true)], args := [d1, d2] }
  | _ => none }
def aluDivisionRow : OpenClaim := { program := "ytahddhnfgonpmaa", sum := "f8bd0f4fb5a3fce3db27cbd81a9e34a851dff23d0d19d3397a95789d8c291c03", func := "regcert/regcertlaw06.AluDivision", spec := "aluDivision", unfollowed := true, recurses := true, apart := false }
def AluDivisionSaid : Prop := aluDivisionRow.holds Try.pinned (OpenSpec.ofChange aluDivisionSpec)

/-- ITS FALSE NEIGHBOUR: 'it returns false'. Refute it at one input. -/
def aluDivisionWrong : ChangeSpec := { name := "aluDivision", fn := fun _ => fun
  | [d1, d2] => { results := [.lit (.bool false)], args := [d1, d2] }
  | _ => none }
def AluDivisionWrongFalsely : Prop := aluDivisionRow.holds Try.pinned (OpenSpec.ofChange aluDivisionWrong)

/-- 'regcertlaw06.AluAlgebra': WHATEVER THE INPUT: true; the input reads as it did. -/
def aluAlgebraSpec : ChangeSpec := { name := "aluAlgebra", fn := fun _ => fun
  | [d1, d2, d3] => { results := [.lit (.bool true)], args := [d1, d2, d3] }
  | _ => none }
def aluAlgebraRow : OpenClaim := { program := "ytahddhnfgonpmaa", sum := "f8bd0f4fb5a3fce3db27cbd81a9e34a851dff23d0d19d3397a95789d8c291c03", func := "regcert/regcertlaw06.AluAlgebra", spec := "aluAlgebra", unfollowed := true, recurses := true, apart := false }
def AluAlgebraSaid : Prop := aluAlgebraRow.holds Try.pinned (OpenSpec.ofChange aluAlgebraSpec)

/-- ITS FALSE NEIGHBOUR: 'it returns false'. Refute it at one input. -/
def aluAlgebraWrong : ChangeSpec := { name := "aluAlgebra", fn := fun _ => fun
  | [d1, d2, d3] => { results := [.lit (.bool false)], args := [d1, d2, d3] }
  | _ => none }
def AluAlgebraWrongFalsely : Prop := aluAlgebraRow.holds Try.pinned (OpenSpec.ofChange aluAlgebraWrong)

/-- 'regcertlaw06.AluShifts': WHATEVER THE INPUT: true; the input reads as it did. -/
def aluShiftsSpec : ChangeSpec := { name := "aluShifts", fn := fun _ => fun
  | [d1, d2, d3] => { results := [.lit (.bool true)], args := [d1, d2, d3] }
  | _ => none }
def aluShiftsRow : OpenClaim := { program := "ytahddhnfgonpmaa", sum := "f8bd0f4fb5a3fce3db27cbd81a9e34a851dff23d0d19d3397a95789d8c291c03", func := "regcert/regcertlaw06.AluShifts", spec := "aluShifts", unfollowed := true, recurses := true, apart := false }
def AluShiftsSaid : Prop := aluShiftsRow.holds Try.pinned (OpenSpec.ofChange aluShiftsSpec)

/-- ITS FALSE NEIGHBOUR: 'it returns false'. Refute it at one input. -/
def aluShiftsWrong : ChangeSpec := { name := "aluShifts", fn := fun _ => fun
  | [d1, d2, d3] => { results := [.lit (.bool false)], args := [d1, d2, d3] }
  | _ => none }
def AluShiftsWrongFalsely : Prop := aluShiftsRow.holds Try.pinned (OpenSpec.ofChange aluShiftsWrong)

/- THE SECOND FORM. 'bulk': how many values and letters a reading holds, each counted each time it is reached (what is shared counts as often as it is met; a slice's spare places count too). A statement '..UptoSaid' is the law's where the arguments, and the package variables that the reading takes, are together of bulk at most 1048576: NARROWER than '..Said'. Prove '..Said' where nothing that the law and all that it calls make is longer than what came in: it says more and counts as full. Else prove '..UptoSaid'. A law counts once. -/
mutual
def uptoBulk {H : Type} : DataW H → Nat
  | .lit (.string bytes) => bytes.length + 1
  | .lit _ => 1
  | .nil => 1
  | .ptr d => uptoBulk d + 1
  | .slice elems spare => uptoBulkAll elems + uptoBulkAll spare + 1
  | .agg parts => uptoBulkAll parts + 1
  | .iface _ d => uptoBulk d + 1
  | .map entries => uptoBulkEntries entries + 1
  | .held _ => 1
def uptoBulkAll {H : Type} : List (DataW H) → Nat
  | [] => 0
  | d :: r => uptoBulk d + uptoBulkAll r
def uptoBulkEntries {H : Type} : List (Lit × DataW H) → Nat
  | [] => 0
  | x :: r => uptoBulkEntry x + uptoBulkEntries r
def uptoBulkEntry {H : Type} : Lit × DataW H → Nat
  | (.string bytes, d) => bytes.length + uptoBulk d + 1
  | (_, d) => uptoBulk d + 1
 end
def uptoSmall : (H : Type) → List (DataW H) → Bool := fun _ ds => decide (uptoBulkAll ds ≤ 1048576)
def OpenSpec.upto (s : _root_.Go.ChangeSpec) : _root_.Go.OpenSpec := { _root_.Go.OpenSpec.ofChange s with cond := some uptoSmall }

/-- 'regcertlaw06.AluMatchesReference', WHERE WHAT IT READS IS OF BULK AT MOST 1048576: true; the input reads as it did. -/
def aluMatchesReferenceUptoRow : OpenClaim := { program := "ytahddhnfgonpmaa", sum := "f8bd0f4fb5a3fce3db27cbd81a9e34a851dff23d0d19d3397a95789d8c291c03", func := "regcert/regcertlaw06.AluMatchesReference", spec := "aluMatchesReference", unfollowed := true, recurses := true, apart := false, narrowed := true }
def AluMatchesReferenceUptoSaid : Prop := aluMatchesReferenceUptoRow.holds Try.pinned (OpenSpec.upto aluMatchesReferenceSpec)

/-- 'regcertlaw06.AluUnusedOperands', WHERE WHAT IT READS IS OF BULK AT MOST 1048576: true; the input reads as it did. -/
def aluUnusedOperandsUptoRow : OpenClaim := { program := "ytahddhnfgonpmaa", sum := "f8bd0f4fb5a3fce3db27cbd81a9e34a851dff23d0d19d3397a95789d8c291c03", func := "regcert/regcertlaw06.AluUnusedOperands", spec := "aluUnusedOperands", unfollowed := true, recurses := true, apart := false, narrowed := true }
def AluUnusedOperandsUptoSaid : Prop := aluUnusedOperandsUptoRow.holds Try.pinned (OpenSpec.upto aluUnusedOperandsSpec)

/-- 'regcertlaw06.AluDivision', WHERE WHAT IT READS IS OF BULK AT MOST 1048576: true; the input reads as it did. -/
def aluDivisionUptoRow : OpenClaim := { program := "ytahddhnfgonpmaa", sum := "f8bd0f4fb5a3fce3db27cbd81a9e34a851dff23d0d19d3397a95789d8c291c03", func := "regcert/regcertlaw06.AluDivision", spec := "aluDivision", unfollowed := true, recurses := true, apart := false, narrowed := true }
def AluDivisionUptoSaid : Prop := aluDivisionUptoRow.holds Try.pinned (OpenSpec.upto aluDivisionSpec)

/-- 'regcertlaw06.AluAlgebra', WHERE WHAT IT READS IS OF BULK AT MOST 1048576: true; the input reads as it did. -/
def aluAlgebraUptoRow : OpenClaim := { program := "ytahddhnfgonpmaa", sum := "f8bd0f4fb5a3fce3db27cbd81a9e34a851dff23d0d19d3397a95789d8c291c03", func := "regcert/regcertlaw06.AluAlgebra", spec := "aluAlgebra", unfollowed := true, recurses := true, apart := false, narrowed := true }
def AluAlgebraUptoSaid : Prop := aluAlgebraUptoRow.holds Try.pinned (OpenSpec.upto aluAlgebraSpec)

/-- 'regcertlaw06.AluShifts', WHERE WHAT IT READS IS OF BULK AT MOST 1048576: true; the input reads as it did. -/
def aluShiftsUptoRow : OpenClaim := { program := "ytahddhnfgonpmaa", sum := "f8bd0f4fb5a3fce3db27cbd81a9e34a851dff23d0d19d3397a95789d8c291c03", func := "regcert/regcertlaw06.AluShifts", spec := "aluShifts", unfollowed := true, recurses := true, apart := false, narrowed := true }
def AluShiftsUptoSaid : Prop := aluShiftsUptoRow.holds Try.pinned (OpenSpec.upto aluShiftsSpec)

end Rows
end Go.Proofs.Ytahddhnfgonpmaa
