/-
  The program's functions on opcodes: isOpcode, Of, Operands, Source, Machine, Name; and the reference's uses.
-/
import Derived.Test.YtcindgaonaloeaaOpcMath
import Derived.LoopTactic
namespace Go.Proofs.Ytcindgaonaloeaa
open Go.RowKit

theorem ways (op : Int) : op < 1 ∨ 18 < op ∨ ∃ k : Nat, 1 ≤ k ∧ k ≤ 18 ∧ op = k := by
  rcases (by omega : op < 1 ∨ 18 < op ∨ (1 ≤ op ∧ op ≤ 18)) with h | h | h
  · exact .inl h
  · exact .inr (.inl h)
  · exact .inr (.inr ⟨op.toNat, by omega, by omega, by omega⟩)

set_option maxRecDepth 100000 in
theorem isop_any (op : Int) (b : Bool) (w : World) (hb : uO op = b) :
    Calls Try.prog 41 #[.int .i64 op] w fun e w' => e = .returned (.bool b) ∧ w = w' := by
  subst hb
  by_cases h : 1 ≤ op
  · by_cases h2 : op ≤ 18
    · rw [uO, decide_eq_true ⟨h, h2⟩]
      go_enter Try.func41, Try.ntmps41
      go_wp2
      go_ret
      exact ⟨rfl, rfl⟩
    · rw [uO, decide_eq_false (fun e => h2 e.2)]
      go_enter Try.func41, Try.ntmps41
      go_wp2
      go_ret
      exact ⟨rfl, rfl⟩
  · rw [uO, decide_eq_false (fun e => h e.1)]
    go_enter Try.func41, Try.ntmps41
    go_wp2
    go_ret
    exact ⟨rfl, rfl⟩

set_option maxRecDepth 100000 in
theorem rusesD_any (op : Int) (b : Bool) (w : World) (hb : uD op = b) :
    Calls Try.prog 35 #[.int .i64 op] w fun e w' => e = .returned (.bool b) ∧ w = w' := by
  subst hb
  by_cases h : 1 ≤ op
  · by_cases h2 : op ≤ 16
    · rw [uD, decide_eq_true ⟨h, h2⟩]
      go_enter Try.func35, Try.ntmps35
      go_wp2
      go_ret
      exact ⟨rfl, rfl⟩
    · rw [uD, decide_eq_false (fun e => h2 e.2)]
      go_enter Try.func35, Try.ntmps35
      go_wp2
      go_ret
      exact ⟨rfl, rfl⟩
  · rw [uD, decide_eq_false (fun e => h e.1)]
    go_enter Try.func35, Try.ntmps35
    go_wp2
    go_ret
    exact ⟨rfl, rfl⟩

set_option maxRecDepth 100000 in
theorem rusesA_any (op : Int) (b : Bool) (w : World) (hb : uA op = b) :
    Calls Try.prog 36 #[.int .i64 op] w fun e w' => e = .returned (.bool b) ∧ w = w' := by
  subst hb
  by_cases h : 2 ≤ op
  · by_cases h2 : op ≤ 17
    · rw [uA, decide_eq_true ⟨h, h2⟩]
      go_enter Try.func36, Try.ntmps36
      go_wp2
      go_ret
      exact ⟨rfl, rfl⟩
    · rw [uA, decide_eq_false (fun e => h2 e.2)]
      go_enter Try.func36, Try.ntmps36
      go_wp2
      go_ret
      exact ⟨rfl, rfl⟩
  · rw [uA, decide_eq_false (fun e => h e.1)]
    go_enter Try.func36, Try.ntmps36
    go_wp2
    go_ret
    exact ⟨rfl, rfl⟩

set_option maxRecDepth 100000 in
theorem rusesB_any (op : Int) (b : Bool) (w : World) (hb : uB op = b) :
    Calls Try.prog 37 #[.int .i64 op] w fun e w' => e = .returned (.bool b) ∧ w = w' := by
  subst hb
  by_cases h : 5 ≤ op
  · by_cases h2 : op ≤ 16
    · rw [uB, decide_eq_true ⟨h, h2⟩]
      go_enter Try.func37, Try.ntmps37
      go_wp2
      go_ret
      exact ⟨rfl, rfl⟩
    · rw [uB, decide_eq_false (fun e => h2 e.2)]
      go_enter Try.func37, Try.ntmps37
      go_wp2
      go_ret
      exact ⟨rfl, rfl⟩
  · rw [uB, decide_eq_false (fun e => h e.1)]
    go_enter Try.func37, Try.ntmps37
    go_wp2
    go_ret
    exact ⟨rfl, rfl⟩

set_option maxRecDepth 100000 in
theorem source_any (op : Int) (b : Bool) (w : World) (hb : (uO op && !(op == 18)) = b) :
    Calls Try.prog 43 #[.int .i64 op] w fun e w' => e = .returned (.bool b) ∧ w = w' := by
  subst hb
  cases h : uO op
  · have H := Lib.hid h
    clear h
    go_enter Try.func43, Try.ntmps43
    go_wp2_with (go_at_call 41; refine (isop_any op _ _ H.out).mono ?_; rintro e w' ⟨rfl, rfl⟩)
    go_ret
    exact ⟨rfl, rfl⟩
  · have H := Lib.hid h
    clear h
    go_enter Try.func43, Try.ntmps43
    go_wp2_with (go_at_call 41; refine (isop_any op _ _ H.out).mono ?_; rintro e w' ⟨rfl, rfl⟩)
    go_ret
    exact ⟨rfl, rfl⟩

set_option maxRecDepth 100000 in
theorem machine_any (op : Int) (b : Bool) (w : World) (hb : (uO op && !(op == 2)) = b) :
    Calls Try.prog 34 #[.int .i64 op] w fun e w' => e = .returned (.bool b) ∧ w = w' := by
  subst hb
  cases h : uO op
  · have H := Lib.hid h
    clear h
    go_enter Try.func34, Try.ntmps34
    go_wp2_with (go_at_call 41; refine (isop_any op _ _ H.out).mono ?_; rintro e w' ⟨rfl, rfl⟩)
    go_ret
    exact ⟨rfl, rfl⟩
  · have H := Lib.hid h
    clear h
    go_enter Try.func34, Try.ntmps34
    go_wp2_with (go_at_call 41; refine (isop_any op _ _ H.out).mono ?_; rintro e w' ⟨rfl, rfl⟩)
    go_ret
    exact ⟨rfl, rfl⟩

end Go.Proofs.Ytcindgaonaloeaa
