/-
  The walk of the statement on the zigzag code.
-/
import Derived.Test.YtbedlgpghijndaaVarAwake
namespace Go.Proofs.Ytbedlgpghijndaa
open Go.RowKit

theorem zz_beq (n m : Int) : (zz n == zz m) = (n == m) := by
  by_cases h : n = m
  · subst h; simp
  · have h2 : zz n ≠ zz m := fun e => h (by rw [← uz_zz n, ← uz_zz m, e])
    rw [beq_eq_false_iff_ne.2 h, beq_eq_false_iff_ne.2 h2]
theorem zz_lt_pos {n m : Int} (h0 : 0 ≤ n) (h : n < m) : zz n < zz m := by unfold zz; split <;> split <;> omega
theorem zz_lt_neg {n m : Int} (h0 : n < 0) (h : m < n) : zz n < zz m := by unfold zz; split <;> split <;> omega
theorem zz_odd (n : Int) : (zz n % 2 == 1) = decide (n < 0) := by
  by_cases h : n < 0
  · rw [decide_eq_true h, beq_iff_eq]; unfold zz; split <;> omega
  · rw [decide_eq_false h, beq_eq_false_iff_ne]; unfold zz; split <;> omega

set_option maxRecDepth 100000 in
set_option maxHeartbeats 2000000 in
theorem VarintZigzag_walk (a0 a1 a2 : Int) (w : World) (w0 : (Lit.int .i64 a0).wf = true) (w1 : (Lit.int .i64 a1).wf = true) (w2 : (Lit.int .u64 a2).wf = true) :
    Calls Try.prog 7 #[.int .i64 a0, .int .i64 a1, .int .u64 a2] w fun e w' => e = .returned (.bool true) ∧ Below w.heap.size w w' := by
  have i0 : InI a0 := i64_of_wf w0
  have i1 : InI a1 := i64_of_wf w1
  have i2 : InU a2 := u64_of_wf w2
  have j0 := zz_in i0
  have j2 := uz_in i2
  have e1 := uz_zz a0
  have e2 := zz_uz i2
  have e3 := zz_beq a0 a1
  have e4 := zz_odd a0
  have hn0 : 0 ≤ zz a0 := j0.1
  have P1 := fun h0 h => zz_lt_pos (n := a0) (m := a1) h0 h
  have P2 := fun h0 h => zz_lt_neg (n := a0) (m := a1) h0 h
  have HP1 := Lib.hid P1
  have HP2 := Lib.hid P2
  clear P1 P2 w0 w1 w2
  go_enter Try.func7, Try.ntmps7
  go_wp2_with fail
  refine (awake_any _).mono ?_
  rintro e W ⟨rfl, hb⟩
  go_wp2_with (first
    | (go_at_call 16; refine (zig_any _ _ (by assumption)).mono ?_; rintro e w' ⟨rfl, rfl⟩)
    | (go_at_call 18; refine (unzig_any _ _ (by assumption)).mono ?_; rintro e w' ⟨rfl, rfl⟩))
  all_goals go_ret
  · exact ⟨rfl, hb⟩
  · exact ⟨retb (HP1.out (by assumption) (by assumption)), hb⟩
  · exact ⟨rfl, hb⟩
  · exact ⟨retb (HP2.out (by assumption) (by assumption)), hb⟩
  · exact ⟨rfl, hb⟩
  · exact ⟨rfl, hb⟩

end Go.Proofs.Ytbedlgpghijndaa
