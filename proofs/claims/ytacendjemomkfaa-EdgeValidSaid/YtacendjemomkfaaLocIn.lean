/-
  The program's and the reference's InRange of layer 4, without its texts (for seats that read no table).
-/
import Derived.Test.YtacendjemomkfaaBase
import Derived.LoopTactic
import Derived.Below
namespace Go.Proofs.Ytacendjemomkfaa
open Go.RowKit
set_option linter.unusedVariables false

/-- Whether a location is in range. -/
def locS (l r s : Int) : Bool := if l < 0 then false else if l % 2 = 1 then decide (l / 2 < s) else decide (l / 2 < r)
theorem locS_nn {l r s : Int} (h : locS l r s = true) : 0 ≤ l := by
  unfold locS at h
  by_cases h0 : l < 0
  · rw [if_pos h0] at h; cases h
  · omega
/-- A number that fits. -/
def Fits (l : Int) : Prop := -9223372036854775808 ≤ l ∧ l ≤ 9223372036854775807

set_option maxRecDepth 100000 in
theorem locslot_any (l : Int) (b : Bool) (w : World) (h0 : 0 ≤ l) (h : l ≤ 9223372036854775807) (hb : decide (l % 2 = 1) = b) :
    Calls Try.prog 32 #[.int .i64 l] w fun e w' => e = .returned (.bool b) ∧ w = w' := by
  go_enter Try.func32, Try.ntmps32
  go_wp2
  go_ret
  refine ⟨?_, rfl⟩
  have e : (l % 2 != 0) = b := by
    rw [← hb]
    rcases (by omega : l % 2 = 0 ∨ l % 2 = 1) with h1 | h1
    · rw [h1]; rfl
    · rw [h1]; rfl
  exact congrArg (fun x => Ending.returned (Value.bool x)) e

set_option maxRecDepth 100000 in
theorem locidx_any (l : Int) (w : World) (h0 : 0 ≤ l) (h : l ≤ 9223372036854775807) :
    Calls Try.prog 33 #[.int .i64 l] w fun e w' => e = .returned (.int .i64 (l / 2)) ∧ w = w' := by
  go_enter Try.func33, Try.ntmps33
  go_wp2
  go_ret
  exact ⟨rfl, rfl⟩

set_option maxRecDepth 100000 in
set_option maxHeartbeats 1000000 in
theorem locin_any (l r s : Int) (w : World) (hf : Fits l) :
    Calls Try.prog 29 #[.int .i64 l, .int .i64 r, .int .i64 s] w fun e w' => e = .returned (.bool (locS l r s)) ∧ w = w' := by
  obtain ⟨h0, h1⟩ := hf
  unfold locS
  by_cases hn : l < 0
  · rw [if_pos hn]
    go_enter Try.func29, Try.ntmps29
    go_wp2
    go_ret
    exact ⟨rfl, rfl⟩
  · rw [if_neg hn]
    have hl0 : 0 ≤ l := by omega
    by_cases h2 : l % 2 = 1
    · rw [if_pos h2]
      have e2 : Hid (decide (l % 2 = 1) = true) := Lib.hid (by simp [h2])
      clear h2
      go_enter Try.func29, Try.ntmps29
      go_wp2_with (first
        | (go_at_call 32; refine (locslot_any l true _ hl0 h1 e2.out).mono ?_; rintro e w' ⟨rfl, rfl⟩)
        | (go_at_call 33; refine (locidx_any l _ hl0 h1).mono ?_; rintro e w' ⟨rfl, rfl⟩))
      go_ret
      exact ⟨rfl, rfl⟩
    · rw [if_neg h2]
      have e2 : Hid (decide (l % 2 = 1) = false) := Lib.hid (by simp [h2])
      clear h2
      go_enter Try.func29, Try.ntmps29
      go_wp2_with (first
        | (go_at_call 32; refine (locslot_any l false _ hl0 h1 e2.out).mono ?_; rintro e w' ⟨rfl, rfl⟩)
        | (go_at_call 33; refine (locidx_any l _ hl0 h1).mono ?_; rintro e w' ⟨rfl, rfl⟩))
      go_ret
      exact ⟨rfl, rfl⟩

set_option maxRecDepth 100000 in
set_option maxHeartbeats 1000000 in
theorem rlocin_any (l r s : Int) (w : World) (hf : Fits l) :
    Calls Try.prog 23 #[.int .i64 l, .int .i64 r, .int .i64 s] w fun e w' => e = .returned (.bool (locS l r s)) ∧ w = w' := by
  obtain ⟨h0, h1⟩ := hf
  unfold locS
  by_cases hn : l < 0
  · rw [if_pos hn]
    go_enter Try.func23, Try.ntmps23
    go_wp2
    go_ret
    exact ⟨rfl, rfl⟩
  · rw [if_neg hn]
    by_cases h2 : l % 2 = 1
    · rw [if_pos h2]
      go_enter Try.func23, Try.ntmps23
      go_wp2
      go_ret
      exact ⟨rfl, rfl⟩
    · rw [if_neg h2]
      go_enter Try.func23, Try.ntmps23
      go_wp2
      go_ret
      exact ⟨rfl, rfl⟩

theorem locin_at (l r s : Int) (b : Bool) (w : World) (hf : Fits l) (hb : locS l r s = b) :
    Calls Try.prog 29 #[.int .i64 l, .int .i64 r, .int .i64 s] w fun e w' => e = .returned (.bool b) ∧ w = w' := by
  subst hb
  exact locin_any l r s w hf

theorem rlocin_at (l r s : Int) (b : Bool) (w : World) (hf : Fits l) (hb : locS l r s = b) :
    Calls Try.prog 23 #[.int .i64 l, .int .i64 r, .int .i64 s] w fun e w' => e = .returned (.bool b) ∧ w = w' := by
  subst hb
  exact rlocin_any l r s w hf

end Go.Proofs.Ytacendjemomkfaa
