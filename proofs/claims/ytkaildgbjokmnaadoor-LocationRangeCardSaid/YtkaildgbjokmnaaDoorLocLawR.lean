/-
  The walk of the statement on ranges of layer 4.
-/
import Derived.Test.YtkaildgbjokmnaaDoorLocAwake
namespace Go.Proofs.YtkaildgbjokmnaaDoor
open Go.RowKit

theorem u32_of_wf {x : Int} (h : (Lit.int .u32 x).wf = true) : 0 ≤ x ∧ x ≤ 4294967295 := by
  simp [Lit.wf, IntKind.min, IntKind.max, IntKind.signed, IntKind.bits] at h
  omega
theorem u16_of_wf {x : Int} (h : (Lit.int .u16 x).wf = true) : 0 ≤ x ∧ x ≤ 65535 := by
  simp [Lit.wf, IntKind.min, IntKind.max, IntKind.signed, IntKind.bits] at h
  omega
theorem in_reg (n : Nat) (r s : Int) : inS ((2 * n : Nat) : Int) r s = decide ((n : Int) < r) := by
  unfold inS
  rw [if_neg (by omega), if_neg (by omega), show ((2 * n : Nat) : Int) / 2 = n by omega]
theorem in_slot (n : Nat) (r s : Int) : inS ((2 * n + 1 : Nat) : Int) r s = decide ((n : Int) < s) := by
  unfold inS
  rw [if_neg (by omega), if_pos (by omega), show ((2 * n + 1 : Nat) : Int) / 2 = n by omega]
theorem inrange_at (l r s : Int) (b : Bool) (w : World) (h0 : -9223372036854775808 ≤ l) (h1 : l ≤ 9223372036854775807) (hb : inS l r s = b) :
    Calls Tryd.prog 14 #[.int .i64 l, .int .i64 r, .int .i64 s] w fun e w' => e = .returned (.bool b) ∧ w = w' := by
  subst hb
  exact inrange_any l r s w h0 h1

set_option maxRecDepth 100000 in
set_option maxHeartbeats 1000000 in
theorem LocationRange_walk (a0 a1 a2 a3 : Int) (w : World) (w0 : (Lit.int .u32 a0).wf = true) (w1 : (Lit.int .u32 a1).wf = true) (w2 : (Lit.int .u32 a2).wf = true) (w3 : (Lit.int .u16 a3).wf = true) (ht : Tab w) :
    Calls Tryd.prog 6 #[.int .u32 a0, .int .u32 a1, .int .u32 a2, .int .u16 a3] w fun e w' => e = .returned (.bool true) ∧ Below w.heap.size w w' := by
  have i0 := u32_of_wf w0
  have i1 := u32_of_wf w1
  have i2 := u32_of_wf w2
  have i3 := u16_of_wf w3
  clear w0 w1 w2 w3
  obtain ⟨n, rfl⟩ := Int.eq_ofNat_of_zero_le i0.1
  have hn : n < 1099511627776 := by omega
  obtain ⟨R, hR⟩ : ∃ R, R = 2 * n := ⟨_, rfl⟩
  obtain ⟨S, hS⟩ : ∃ S, S = 2 * n + 1 := ⟨_, rfl⟩
  have hRi : ∀ r s, inS R r s = decide ((n : Int) < r) := fun r s => by rw [hR]; exact in_reg n r s
  have hSi : ∀ r s, inS S r s = decide ((n : Int) < s) := fun r s => by rw [hS]; exact in_slot n r s
  have HRi := Lib.hid hRi; have HSi := Lib.hid hSi
  have HR := Lib.hid hR.symm; have HS := Lib.hid hS.symm
  have hR2 : Hid ((-9223372036854775808 : Int) ≤ R ∧ (R : Int) ≤ 9223372036854775807) := Lib.hid (by omega)
  have hS2 : Hid ((-9223372036854775808 : Int) ≤ S ∧ (S : Int) ≤ 9223372036854775807) := Lib.hid (by omega)
  clear hRi hSi hR hS
  obtain ⟨i01, i02⟩ := i0
  obtain ⟨i11, i12⟩ := i1
  obtain ⟨i21, i22⟩ := i2
  obtain ⟨i31, i32⟩ := i3
  by_cases c1 : (n : Int) < a1 <;> by_cases c2 : (n : Int) < a2
  · go_enter Tryd.func6, Tryd.ntmps6
    go_wp2_with fail
    refine (awake_any _ ht).mono ?_
    rintro e W ⟨rfl, hst⟩
    go_wp2_with fail
    refine (reg_at n R _ hn HR.out).mono ?_
    rintro e w' ⟨rfl, rfl⟩
    go_wp2_with fail
    refine (slot_at n S _ hn HS.out).mono ?_
    rintro e w' ⟨rfl, rfl⟩
    go_wp2_with fail
    refine (inrange_at R a1 a2 true _ hR2.out.1 hR2.out.2 ((HRi.out _ _).trans (decide_eq_true (by omega)))).mono ?_
    rintro e w' ⟨rfl, rfl⟩
    go_wp2_with fail
    refine (inrange_at S a1 a2 true _ hS2.out.1 hS2.out.2 ((HSi.out _ _).trans (decide_eq_true (by omega)))).mono ?_
    rintro e w' ⟨rfl, rfl⟩
    go_wp2_with fail
    refine (inrange_at R _ _ true _ hR2.out.1 hR2.out.2 ((HRi.out _ _).trans (decide_eq_true (by omega)))).mono ?_
    rintro e w' ⟨rfl, rfl⟩
    go_wp2_with fail
    refine (inrange_at S _ _ true _ hS2.out.1 hS2.out.2 ((HSi.out _ _).trans (decide_eq_true (by omega)))).mono ?_
    rintro e w' ⟨rfl, rfl⟩
    go_wp2_with fail
    go_ret
    exact ⟨rfl, hst.below⟩
  · go_enter Tryd.func6, Tryd.ntmps6
    go_wp2_with fail
    refine (awake_any _ ht).mono ?_
    rintro e W ⟨rfl, hst⟩
    go_wp2_with fail
    refine (reg_at n R _ hn HR.out).mono ?_
    rintro e w' ⟨rfl, rfl⟩
    go_wp2_with fail
    refine (slot_at n S _ hn HS.out).mono ?_
    rintro e w' ⟨rfl, rfl⟩
    go_wp2_with fail
    refine (inrange_at R a1 a2 true _ hR2.out.1 hR2.out.2 ((HRi.out _ _).trans (decide_eq_true (by omega)))).mono ?_
    rintro e w' ⟨rfl, rfl⟩
    go_wp2_with fail
    refine (inrange_at S a1 a2 false _ hS2.out.1 hS2.out.2 ((HSi.out _ _).trans (decide_eq_false (by omega)))).mono ?_
    rintro e w' ⟨rfl, rfl⟩
    go_wp2_with fail
    refine (inrange_at R _ _ true _ hR2.out.1 hR2.out.2 ((HRi.out _ _).trans (decide_eq_true (by omega)))).mono ?_
    rintro e w' ⟨rfl, rfl⟩
    go_wp2_with fail
    go_ret
    exact ⟨rfl, hst.below⟩
  · go_enter Tryd.func6, Tryd.ntmps6
    go_wp2_with fail
    refine (awake_any _ ht).mono ?_
    rintro e W ⟨rfl, hst⟩
    go_wp2_with fail
    refine (reg_at n R _ hn HR.out).mono ?_
    rintro e w' ⟨rfl, rfl⟩
    go_wp2_with fail
    refine (slot_at n S _ hn HS.out).mono ?_
    rintro e w' ⟨rfl, rfl⟩
    go_wp2_with fail
    refine (inrange_at R a1 a2 false _ hR2.out.1 hR2.out.2 ((HRi.out _ _).trans (decide_eq_false (by omega)))).mono ?_
    rintro e w' ⟨rfl, rfl⟩
    go_wp2_with fail
    refine (inrange_at S a1 a2 true _ hS2.out.1 hS2.out.2 ((HSi.out _ _).trans (decide_eq_true (by omega)))).mono ?_
    rintro e w' ⟨rfl, rfl⟩
    go_wp2_with fail
    refine (inrange_at S _ _ true _ hS2.out.1 hS2.out.2 ((HSi.out _ _).trans (decide_eq_true (by omega)))).mono ?_
    rintro e w' ⟨rfl, rfl⟩
    go_wp2_with fail
    go_ret
    exact ⟨rfl, hst.below⟩
  · go_enter Tryd.func6, Tryd.ntmps6
    go_wp2_with fail
    refine (awake_any _ ht).mono ?_
    rintro e W ⟨rfl, hst⟩
    go_wp2_with fail
    refine (reg_at n R _ hn HR.out).mono ?_
    rintro e w' ⟨rfl, rfl⟩
    go_wp2_with fail
    refine (slot_at n S _ hn HS.out).mono ?_
    rintro e w' ⟨rfl, rfl⟩
    go_wp2_with fail
    refine (inrange_at R a1 a2 false _ hR2.out.1 hR2.out.2 ((HRi.out _ _).trans (decide_eq_false (by omega)))).mono ?_
    rintro e w' ⟨rfl, rfl⟩
    go_wp2_with fail
    refine (inrange_at S a1 a2 false _ hS2.out.1 hS2.out.2 ((HSi.out _ _).trans (decide_eq_false (by omega)))).mono ?_
    rintro e w' ⟨rfl, rfl⟩
    go_wp2_with fail
    go_ret
    exact ⟨rfl, hst.below⟩

end Go.Proofs.YtkaildgbjokmnaaDoor
