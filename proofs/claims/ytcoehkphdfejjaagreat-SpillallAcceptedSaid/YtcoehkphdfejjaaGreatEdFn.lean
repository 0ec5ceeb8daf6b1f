/-
  The program's slotBelow, Initial, invariant, Valid, Entry, Implies of layer 15.
-/
import Derived.Test.YtcoehkphdfejjaaGreatEdRef
namespace Go.Proofs.YtcoehkphdfejjaaGreat
open Go.RowKit
set_option linter.unusedVariables false

set_option maxRecDepth 100000 in
set_option maxHeartbeats 1000000 in
theorem slotb_any (l n : Int) (w : World) (hf : Fits l) :
    Calls Tryz.prog 78 #[.int .i64 l, .int .i64 n] w fun e w' => e = .returned (.bool (locS l 0 n)) ∧ w = w' := by
  go_enter Tryz.func78, Tryz.ntmps78
  go_wp2_with (go_at_call 74; refine (locin_any l 0 n _ hf).mono ?_; rintro e w' ⟨rfl, rfl⟩)
  go_ret
  exact ⟨rfl, rfl⟩

theorem slotb_at (l n : Int) (b : Bool) (w : World) (hf : Fits l) (hb : locS l 0 n = b) :
    Calls Tryz.prog 78 #[.int .i64 l, .int .i64 n] w fun e w' => e = .returned (.bool b) ∧ w = w' := hb ▸ slotb_any l n w hf

theorem locS_0 {l n : Int} (h : 0 ≤ l) : locS l 0 n = (decide (l % 2 = 1) && decide (l / 2 < n)) := by
  unfold locS
  rw [if_neg (by omega)]
  by_cases h1 : l % 2 = 1
  · rw [if_pos h1]; simp [h1]
  · rw [if_neg h1]
    have : ¬ l / 2 < 0 := by omega
    simp [h1, this]

theorem init_lt {v l a : Int} (h : 0 ≤ l) (hv : v < a) : initP (v, l) a = (locS l 0 (v + 1) && !locS l 0 v) := by
  rw [locS_0 h, locS_0 h]
  unfold initP
  rw [if_pos hv]
  by_cases h1 : l % 2 = 1
  · by_cases h2 : l / 2 = v
    · have h5 : v < v + 1 := by omega
      simp [h1, h2, h5]
    · by_cases h3 : l / 2 < v
      · have h4 : l / 2 < v + 1 := by omega
        simp [h1, h2, h3, h4]
      · have h4 : ¬ l / 2 < v + 1 := by omega
        simp [h1, h2, h3, h4]
  · simp [h1]

theorem init_ge {v l a : Int} (h : 0 ≤ l) (hv : ¬ v < a) : initP (v, l) a = !locS l 0 a := by
  rw [locS_0 h]
  unfold initP
  rw [if_neg hv]
  by_cases h1 : l % 2 = 1
  · by_cases h2 : a ≤ l / 2
    · have h3 : ¬ l / 2 < a := by omega
      simp [h1, h2, h3]
    · have h3 : l / 2 < a := by omega
      simp [h1, h2, h3]
  · simp [h1]

/-- What the sum gives, be it beyond the numbers or not. -/
theorem init_wrap {v l : Int} (h0 : 0 ≤ l) (h1 : l ≤ 9223372036854775807) (hv : 0 ≤ v) (hv2 : v ≤ 9223372036854775807) :
    (locS l 0 (IntKind.i64.wrap (v + 1)) && !locS l 0 v) = (locS l 0 (v + 1) && !locS l 0 v) := by
  rw [locS_0 h0, locS_0 h0, locS_0 h0, IntKind.wrap_i64]
  by_cases h : v = 9223372036854775807
  · subst h
    have h2 : l / 2 < 9223372036854775807 := by omega
    by_cases h : l % 2 = 1
    · simp [h, h2]
    · simp [h]
  · have e : (v + 1 + 9223372036854775808) % 18446744073709551616 - 9223372036854775808 = v + 1 := by omega
    rw [e]

set_option maxRecDepth 100000 in
set_option maxHeartbeats 4000000 in
theorem pinit_any (v l a : Int) (w : World) (h1 : 0 ≤ v) (h2 : 0 ≤ l) (h3 : l ≤ 9223372036854775807) (h4 : v ≤ 9223372036854775807) :
    Calls Tryz.prog 61 #[.agg #[.int .i64 v, .int .i64 l], .int .i64 a] w fun e w' => e = .returned (.bool (initP (v, l) a)) ∧ Grew w w' := by
  have HW := Lib.hid ((Grew.refl w).alloc (prObj v l))
  have hf : Fits l := ⟨by omega, h3⟩
  by_cases ha : v < a
  · have HI : Hid (initP (v, l) a = (locS l 0 (IntKind.i64.wrap (v + 1)) && !locS l 0 v)) := (init_lt h2 ha).trans (init_wrap h2 h3 h1 h4).symm
    obtain ⟨n1, hn1⟩ : ∃ z, IntKind.i64.wrap (v + 1) = z := ⟨_, rfl⟩
    rw [hn1] at HI
    rcases hb1 : locS l 0 n1 with _ | _
    · have C1 := Lib.hid fun W => slotb_at l n1 false W hf hb1
      have HI2 : Hid (initP (v, l) a = false) := by show _ = _; rw [HI.out, hb1]; rfl
      clear HI hb1
      go_enter Tryz.func61, Tryz.ntmps61
      go_wp2_with (go_at_call 78; refine (C1.out _).mono ?_; rintro e w' ⟨rfl, rfl⟩)
      go_ret
      exact ⟨by rw [HI2.out]; rfl, HW.out⟩
    · have C1 := Lib.hid fun W => slotb_at l n1 true W hf hb1
      have C2 := Lib.hid fun W => slotb_any l v W hf
      have HI2 : Hid (initP (v, l) a = !locS l 0 v) := by show _ = _; rw [HI.out, hb1]; simp
      generalize locS l 0 v = b2 at *
      clear HI hb1
      go_enter Tryz.func61, Tryz.ntmps61
      go_upto_region 2 with fail
      go_wp2_with fail
      refine (C1.out _).mono ?_
      rintro e w' ⟨rfl, rfl⟩
      go_wp2_with fail
      refine (C2.out _).mono ?_
      rintro e w' ⟨rfl, rfl⟩
      go_wp2
      go_ret
      exact ⟨by rw [HI2.out]; rfl, HW.out⟩
  · have HI : Hid (initP (v, l) a = !locS l 0 a) := init_ge h2 ha
    have C1 := Lib.hid fun W => slotb_any l a W hf
    generalize locS l 0 a = b2 at *
    go_enter Tryz.func61, Tryz.ntmps61
    go_wp2_with (go_at_call 78; refine (C1.out _).mono ?_; rintro e w' ⟨rfl, rfl⟩)
    go_ret
    exact ⟨by rw [HI.out]; rfl, HW.out⟩

end Go.Proofs.YtcoehkphdfejjaaGreat
