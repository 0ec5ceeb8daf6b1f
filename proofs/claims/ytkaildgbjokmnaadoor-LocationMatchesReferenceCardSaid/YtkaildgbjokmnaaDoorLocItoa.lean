/-
  strconv.Itoa at this program (the library's own contract), the table of powers of ten that it reads, and reading the rows' condition on that table.
-/
import Derived.Test.YtkaildgbjokmnaaDoorBase
import Derived.Test.YtkaildgbjokmnaaDoorShelf
import Derived.Lib.AppendIntMem
import Derived.Lib.LaidTab
namespace Go.Proofs.YtkaildgbjokmnaaDoor
open Go.RowKit
open Go.Lib (decDigits)

/-- The library's table, by the name that the statement itself lists. -/
def tabName : String := (Rows.locationTextsRow.laid.map (·.1)).getD 2 default
def Tab (w : World) : Prop := Lib.TabIs Tryd.prog w tabName .u64 Lib.pow10Tab
theorem Tab.on {w w' : World} (h : Tab w) (hb : Below w.heap.size w w') : Tab w' := Lib.tabBelow_of_tabIs h w' hb
theorem Tab.drew {w : World} (h : Tab w) : Tab w.drew := h
theorem Tab.drewN {w : World} (h : Tab w) (n : Nat) : Tab (w.drewN n) := h

theorem itoa_any (n : Nat) (w : World) (hn : n < 9223372036854775808) (ht : Tab w) :
    Calls Tryd.prog 20 #[.int .i64 n] w fun e w' => e = .returned (.string ⟨(decDigits n).toArray⟩) ∧ Below w.heap.size w w' := by
  refine (Any.strconv_Itoa Tryd.laysM171 n (by omega) (by omega) w ht).mono ?_
  rintro e w' ⟨rfl, k, os, rfl⟩
  refine ⟨?_, ?_⟩
  · rw [Lib.itoa, if_neg (by omega)]
    rfl
  · exact Lib.below_grow w.heap.size w (Nat.le_refl _) k os

end Go.Proofs.YtkaildgbjokmnaaDoor
