/-
  The program's functions on opcodes: isOpcode, Of, Operands, Source, Machine, Name; and the reference's uses.
-/
import Derived.Test.YtfkknebjhcafhaaOpcMath
import Derived.LoopTactic
namespace Go.Proofs.Ytfkknebjhcafhaa
open Go.RowKit

theorem ways (op : Int) : op < 1 ∨ 18 < op ∨ ∃ k : Nat, 1 ≤ k ∧ k ≤ 18 ∧ op = k := by
  rcases (by omega : op < 1 ∨ 18 < op ∨ (1 ≤ op ∧ op ≤ 18)) with h | h | h
  · exact .inl h
  · exact .inr (.inl h)
  · exact .inr (.inr ⟨op.toNat, by omega, by omega, by omega⟩)

set_option maxRecDepth 100000 in
theorem rusesD_any (op : Int) (b : Bool) (w : World) (hb : uD op = b) :
    Calls Try.prog 34 #[.int .i64 op] w fun e w' => e = .returned (.bool b) ∧ w = w' := by
  subst hb
  by_cases h : 1 ≤ op
  · by_cases h2 : op ≤ 16
    · rw [uD, decide_eq_true ⟨h, h2⟩]
      go_enter Try.func34, Try.ntmps34
      go_wp2
      go_ret
      exact ⟨rfl, rfl⟩
    · rw [uD, decide_eq_false (fun e => h2 e.2)]
      go_enter Try.func34, Try.ntmps34
      go_wp2
      go_ret
      exact ⟨rfl, rfl⟩
  · rw [uD, decide_eq_false (fun e => h e.1)]
    go_enter Try.func34, Try.ntmps34
    go_wp2
    go_ret
    exact ⟨rfl, rfl⟩

set_option maxRecDepth 100000 in
theorem rusesA_any (op : Int) (b : Bool) (w : World) (hb : uA op = b) :
    Calls Try.prog 36 #[.int .i64 op] w fun e w' => e = .returned (.bool b) ∧ w = w' := by
  subst hb
  by_cases h : 2 ≤ op
  · by_cases h2 : op ≤ 17
    · rw [uA, decide_eq_true ⟨h, h2⟩]
      go_enter Try.func36, Try.ntmps36
      go_wp2
      go_ret
      exact ⟨rfl, rfl⟩
    · rw [uA, decide_eq_false (fun e => h2 e.2)]
      go_enter Try.func36, Try.ntmps36
      go_wp2
      go_ret
      exact ⟨rfl, rfl⟩
  · rw [uA, decide_eq_false (fun e => h e.1)]
    go_enter Try.func36, Try.ntmps36
    go_wp2
    go_ret
    exact ⟨rfl, rfl⟩

set_option maxRecDepth 100000 in
theorem rusesB_any (op : Int) (b : Bool) (w : World) (hb : uB op = b) :
    Calls Try.prog 37 #[.int .i64 op] w fun e w' => e = .returned (.bool b) ∧ w = w' := by
  subst hb
  by_cases h : 5 ≤ op
  · by_cases h2 : op ≤ 16
    · rw [uB, decide_eq_true ⟨h, h2⟩]
      go_enter Try.func37, Try.ntmps37
      go_wp2
      go_ret
      exact ⟨rfl, rfl⟩
    · rw [uB, decide_eq_false (fun e => h2 e.2)]
      go_enter Try.func37, Try.ntmps37
      go_wp2
      go_ret
      exact ⟨rfl, rfl⟩
  · rw [uB, decide_eq_false (fun e => h e.1)]
    go_enter Try.func37, Try.ntmps37
    go_wp2
    go_ret
    exact ⟨rfl, rfl⟩

end Go.Proofs.Ytfkknebjhcafhaa
