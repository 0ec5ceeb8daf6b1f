/-
  The program's functions on opcodes: isOpcode, Of, Operands, Source, Machine, Name; and the reference's uses.
-/
import Derived.Test.YtibacenedldnnaaDoorOpcMath
import Derived.LoopTactic
namespace Go.Proofs.YtibacenedldnnaaDoor
open Go.RowKit

theorem ways (op : Int) : op < 1 ∨ 18 < op ∨ ∃ k : Nat, 1 ≤ k ∧ k ≤ 18 ∧ op = k := by
  rcases (by omega : op < 1 ∨ 18 < op ∨ (1 ≤ op ∧ op ≤ 18)) with h | h | h
  · exact .inl h
  · exact .inr (.inl h)
  · exact .inr (.inr ⟨op.toNat, by omega, by omega, by omega⟩)

set_option maxRecDepth 100000 in
theorem isop_any (op : Int) (b : Bool) (w : World) (hb : uO op = b) :
    Calls Tryd.prog 19 #[.int .i64 op] w fun e w' => e = .returned (.bool b) ∧ w = w' := by
  subst hb
  by_cases h : 1 ≤ op
  · by_cases h2 : op ≤ 18
    · rw [uO, decide_eq_true ⟨h, h2⟩]
      go_enter Tryd.func19, Tryd.ntmps19
      go_wp2
      go_ret
      exact ⟨rfl, rfl⟩
    · rw [uO, decide_eq_false (fun e => h2 e.2)]
      go_enter Tryd.func19, Tryd.ntmps19
      go_wp2
      go_ret
      exact ⟨rfl, rfl⟩
  · rw [uO, decide_eq_false (fun e => h e.1)]
    go_enter Tryd.func19, Tryd.ntmps19
    go_wp2
    go_ret
    exact ⟨rfl, rfl⟩

set_option maxRecDepth 100000 in
theorem rusesD_any (op : Int) (b : Bool) (w : World) (hb : uD op = b) :
    Calls Tryd.prog 8 #[.int .i64 op] w fun e w' => e = .returned (.bool b) ∧ w = w' := by
  subst hb
  by_cases h : 1 ≤ op
  · by_cases h2 : op ≤ 16
    · rw [uD, decide_eq_true ⟨h, h2⟩]
      go_enter Tryd.func8, Tryd.ntmps8
      go_wp2
      go_ret
      exact ⟨rfl, rfl⟩
    · rw [uD, decide_eq_false (fun e => h2 e.2)]
      go_enter Tryd.func8, Tryd.ntmps8
      go_wp2
      go_ret
      exact ⟨rfl, rfl⟩
  · rw [uD, decide_eq_false (fun e => h e.1)]
    go_enter Tryd.func8, Tryd.ntmps8
    go_wp2
    go_ret
    exact ⟨rfl, rfl⟩

set_option maxRecDepth 100000 in
theorem rusesA_any (op : Int) (b : Bool) (w : World) (hb : uA op = b) :
    Calls Tryd.prog 9 #[.int .i64 op] w fun e w' => e = .returned (.bool b) ∧ w = w' := by
  subst hb
  by_cases h : 2 ≤ op
  · by_cases h2 : op ≤ 17
    · rw [uA, decide_eq_true ⟨h, h2⟩]
      go_enter Tryd.func9, Tryd.ntmps9
      go_wp2
      go_ret
      exact ⟨rfl, rfl⟩
    · rw [uA, decide_eq_false (fun e => h2 e.2)]
      go_enter Tryd.func9, Tryd.ntmps9
      go_wp2
      go_ret
      exact ⟨rfl, rfl⟩
  · rw [uA, decide_eq_false (fun e => h e.1)]
    go_enter Tryd.func9, Tryd.ntmps9
    go_wp2
    go_ret
    exact ⟨rfl, rfl⟩

set_option maxRecDepth 100000 in
theorem rusesB_any (op : Int) (b : Bool) (w : World) (hb : uB op = b) :
    Calls Tryd.prog 10 #[.int .i64 op] w fun e w' => e = .returned (.bool b) ∧ w = w' := by
  subst hb
  by_cases h : 5 ≤ op
  · by_cases h2 : op ≤ 16
    · rw [uB, decide_eq_true ⟨h, h2⟩]
      go_enter Tryd.func10, Tryd.ntmps10
      go_wp2
      go_ret
      exact ⟨rfl, rfl⟩
    · rw [uB, decide_eq_false (fun e => h2 e.2)]
      go_enter Tryd.func10, Tryd.ntmps10
      go_wp2
      go_ret
      exact ⟨rfl, rfl⟩
  · rw [uB, decide_eq_false (fun e => h e.1)]
    go_enter Tryd.func10, Tryd.ntmps10
    go_wp2
    go_ret
    exact ⟨rfl, rfl⟩

set_option maxRecDepth 100000 in
theorem rusesI_any (op : Int) (b : Bool) (w : World) (hb : uI op = b) :
    Calls Tryd.prog 11 #[.int .i64 op] w fun e w' => e = .returned (.bool b) ∧ w = w' := by
  subst hb
  have e1 : (op == 1) = uI op := by rw [uI]; rfl
  have H := Lib.hid e1
  clear e1
  go_enter Tryd.func11, Tryd.ntmps11
  go_wp2
  go_ret
  exact ⟨by rw [H.out]; rfl, rfl⟩

set_option maxRecDepth 100000 in
theorem source_any (op : Int) (b : Bool) (w : World) (hb : (uO op && !(op == 18)) = b) :
    Calls Tryd.prog 16 #[.int .i64 op] w fun e w' => e = .returned (.bool b) ∧ w = w' := by
  subst hb
  cases h : uO op
  · have H := Lib.hid h
    clear h
    go_enter Tryd.func16, Tryd.ntmps16
    go_wp2_with (go_at_call 19; refine (isop_any op _ _ H.out).mono ?_; rintro e w' ⟨rfl, rfl⟩)
    go_ret
    exact ⟨rfl, rfl⟩
  · have H := Lib.hid h
    clear h
    go_enter Tryd.func16, Tryd.ntmps16
    go_wp2_with (go_at_call 19; refine (isop_any op _ _ H.out).mono ?_; rintro e w' ⟨rfl, rfl⟩)
    go_ret
    exact ⟨rfl, rfl⟩

set_option maxRecDepth 100000 in
theorem machine_any (op : Int) (b : Bool) (w : World) (hb : (uO op && !(op == 2)) = b) :
    Calls Tryd.prog 17 #[.int .i64 op] w fun e w' => e = .returned (.bool b) ∧ w = w' := by
  subst hb
  cases h : uO op
  · have H := Lib.hid h
    clear h
    go_enter Tryd.func17, Tryd.ntmps17
    go_wp2_with (go_at_call 19; refine (isop_any op _ _ H.out).mono ?_; rintro e w' ⟨rfl, rfl⟩)
    go_ret
    exact ⟨rfl, rfl⟩
  · have H := Lib.hid h
    clear h
    go_enter Tryd.func17, Tryd.ntmps17
    go_wp2_with (go_at_call 19; refine (isop_any op _ _ H.out).mono ?_; rintro e w' ⟨rfl, rfl⟩)
    go_ret
    exact ⟨rfl, rfl⟩

set_option maxRecDepth 100000 in
theorem name_any (op : Int) (w : World) (ht : Tab w) :
    Calls Tryd.prog 12 #[.int .i64 op] w fun e w' => e = .returned (.string (nameB op)) ∧ w = w' := by
  by_cases h : 1 ≤ op ∧ op ≤ 18
  · have H : Hid (uO op = true) := Lib.hid (decide_eq_true h)
    rw [nameB_in h]
    obtain ⟨k, rfl⟩ := Int.eq_ofNat_of_zero_le (a := op) (by omega)
    have hc := ht.cell (i := k) (by omega)
    rw [show ((k : Int)).toNat = k by omega]
    have hk : k < 19 := by omega
    clear h
    go_enter Tryd.func12, Tryd.ntmps12
    go_wp2_with (go_at_call 19; refine (isop_any k true _ H.out).mono ?_; rintro e w' ⟨rfl, rfl⟩)
    go_ret
    exact ⟨rfl, rfl⟩
  · have H : Hid (uO op = false) := Lib.hid (decide_eq_false h)
    rw [nameB_out h]
    clear h
    go_enter Tryd.func12, Tryd.ntmps12
    go_wp2_with (go_at_call 19; refine (isop_any op false _ H.out).mono ?_; rintro e w' ⟨rfl, rfl⟩)
    go_ret
    exact ⟨rfl, rfl⟩

end Go.Proofs.YtibacenedldnnaaDoor
