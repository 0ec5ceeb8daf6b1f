/-
  The walk of the statement on soundness, out of its pieces.
-/
import Derived.Test.YtabebkkicpcjcaaBcSkA
import Derived.Test.YtabebkkicpcjcaaBcSkB
import Derived.Test.YtabebkkicpcjcaaBcSkC
namespace Go.Proofs.Ytabebkkicpcjcaa
open Go.RowKit
set_option linter.unusedVariables false

theorem BlockcheckSound_walk (a0 a1 : Array Value) (a2 : Option Addr) (len2 cap2 : Nat) (z2 : List Int) (a3 : Option Addr) (len3 cap3 : Nat) (z3 : List Int) (a4 : Option Addr) (len4 cap4 : Nat) (z4 : List Int) (a5 : Option Addr) (len5 cap5 : Nat) (w : World) (w0 : IsBlk w a0) (w1 : IsMBlk w a1) (w2 : IsRow .i64 w a2 len2 cap2 z2) (w3 : IsRow .i64 w a3 len3 cap3 z3) (w4 : IsRow .i64 w a4 len4 cap4 z4) (w5 : IsBools w a5 len5 cap5) :
    Calls Try.prog 4 #[.agg a0, .agg a1, .slice a2 len2 cap2, .slice a3 len3 cap3, .slice a4 len4 cap4, .slice a5 len5 cap5] w fun e w' => e = .returned (.bool true) ∧ Below w.heap.size w w' :=
  soundSk.out sound_pA sound_pB sound_pC a0 a1 a2 len2 cap2 z2 a3 len3 cap3 z3 a4 len4 cap4 z4 a5 len5 cap5 w w0 w1 w2 w3 w4 w5

end Go.Proofs.Ytabebkkicpcjcaa
