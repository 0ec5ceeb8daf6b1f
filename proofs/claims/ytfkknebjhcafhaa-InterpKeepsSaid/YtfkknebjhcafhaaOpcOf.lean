/-
  The program's Of and Operands.
-/
import Derived.Test.YtfkknebjhcafhaaOpcFns
namespace Go.Proofs.Ytfkknebjhcafhaa
open Go.RowKit

theorem ways18 (op : Int) : uO op = false ∨ op = 1 ∨ op = 2 ∨ op = 3 ∨ op = 4 ∨ op = 5 ∨ op = 6 ∨ op = 7 ∨ op = 8 ∨ op = 9 ∨ op = 10 ∨ op = 11 ∨ op = 12 ∨ op = 13 ∨ op = 14 ∨ op = 15 ∨ op = 16 ∨ op = 17 ∨ op = 18 := by
  by_cases h : 1 ≤ op ∧ op ≤ 18
  · right; omega
  · left; exact decide_eq_false h
theorem out_of {op : Int} (h : uO op = false) : ¬ (1 ≤ op ∧ op ≤ 18) := of_decide_eq_false h
theorem out_D {op : Int} (h : uO op = false) : uD op = false := decide_eq_false (by have := out_of h; omega)
theorem out_A {op : Int} (h : uO op = false) : uA op = false := decide_eq_false (by have := out_of h; omega)
theorem out_B {op : Int} (h : uO op = false) : uB op = false := decide_eq_false (by have := out_of h; omega)
theorem out_I {op : Int} (h : uO op = false) : uI op = false := decide_eq_false (by have := out_of h; omega)
theorem out_ne {op : Int} (h : uO op = false) (k : Int) (h1 : 1 ≤ k ∧ k ≤ 18) : (op == k) = false := beq_eq_false_iff_ne.2 fun e => out_of h (e ▸ h1)

/-- What Of answers. -/
def shp (op : Int) : Value := .agg #[.bool (uD op), .bool (uA op), .bool (uB op), .bool (uI op)]

end Go.Proofs.Ytfkknebjhcafhaa
