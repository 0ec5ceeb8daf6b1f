/-
  The reference's Eval.
-/
import Derived.Test.YtcoehkphdfejjaaAluBits
import Derived.Deep.WholeRow
namespace Go.Proofs.Ytcoehkphdfejjaa
open Go.RowKit

theorem tup2 {k : IntKind} {a a' : Int} {b b' : Bool} (h1 : a = a') (h2 : b = b') : Ending.returned (.tuple #[.int k a, .bool b]) = .returned (.tuple #[.int k a', .bool b']) := by rw [h1, h2]

/-! Division. -/

theorem tmod_abs {a b : Int} (h : ¬ b = 0) : (a.tmod b).natAbs < b.natAbs := by
  rw [Int.natAbs_tmod]
  exact Nat.mod_lt _ (by omega)

theorem tmod_le (a b : Int) : (a.tmod b).natAbs ≤ a.natAbs := by
  rw [Int.natAbs_tmod]
  exact Nat.mod_le _ _

theorem tmod_pos {a : Int} (b : Int) (h : 0 ≤ a) : 0 ≤ a.tmod b := Int.tmod_nonneg b h

theorem tmod_neg' {a : Int} (b : Int) (h : a < 0) : a.tmod b ≤ 0 := by
  have := Int.tmod_nonneg b (show 0 ≤ -a by omega)
  rw [Int.neg_tmod] at this
  omega

theorem tdiv_in {a b : Int} (ha : InI a) (h0 : ¬ b = 0) (h1 : ¬ b = -1) : InI (a.tdiv b) := by
  by_cases hb : b = 1
  · subst hb
    rwa [Int.tdiv_one]
  · have e := Int.natAbs_tdiv a b
    have h2 : 2 ≤ b.natAbs := by omega
    have h3 : a.natAbs.div b.natAbs ≤ a.natAbs / 2 := Nat.div_le_div_left h2 (by omega)
    unfold InI at *
    omega

theorem rem_val {a b : Int} (ha : InI a) (h0 : ¬ b = 0) (h1 : ¬ b = -1) : wrap64 (a - wrap64 (b * wrap64 (a.tdiv b))) = a.tmod b := by
  rw [w64_id (tdiv_in ha h0 h1)]
  have e := Int.mul_tdiv_add_tmod a b
  have l := tmod_le a b
  have p1 := @tmod_pos a b
  have p2 := @tmod_neg' a b
  generalize b * a.tdiv b = q at *
  generalize a.tmod b = r at *
  have e2 : q = a - r := by omega
  subst e2
  rw [w64, w64]
  unfold InI at ha
  omega

theorem tdiv_m1 (a : Int) : a.tdiv (-1) = -a := by rw [Int.tdiv_neg, Int.tdiv_one]

theorem tmod_m1 (a : Int) : a.tmod (-1) = 0 := by rw [Int.tmod_neg, Int.tmod_one]

/-! Shifts. -/

theorem cnt_val (b : Int) : wrap64 ((IntKind.u64.wrap b).tmod 64) = (cnt b : Int) := by
  rw [IntKind.wrap_u64, Int.tmod_eq_emod_of_nonneg (by omega), w64]
  unfold cnt
  omega

theorem shl_step (a : Int) (k : Nat) : wrap64 (wrap64 (a * 2 ^ k) * 2) = wrap64 (a * 2 ^ (k + 1)) := by
  rw [Int.pow_succ, ← Int.mul_assoc]
  generalize a * 2 ^ k = x
  simp only [w64]
  omega

theorem shr_step (a : Int) (k : Nat) : a / 2 ^ k / 2 = a / 2 ^ (k + 1) := by
  rw [Int.ediv_ediv_of_nonneg (Int.pow_nonneg (by omega)), Int.pow_succ]

theorem half_neg {a : Int} (h : a < 0) (e : (a.tmod 2 != 0) = true) (ha : InI a) : wrap64 (a.tdiv 2 - 1) = a / 2 := by
  have e1 := Int.mul_tdiv_add_tmod a 2
  have e2 := tmod_neg' 2 h
  have e3 := @tmod_abs a 2 (by omega)
  have e4 : a.tmod 2 ≠ 0 := by simpa using e
  unfold InI at ha
  rw [w64]
  omega

theorem half_even {a : Int} (e : (a.tmod 2 != 0) = false) : a.tdiv 2 = a / 2 := by
  have e1 := Int.mul_tdiv_add_tmod a 2
  have e4 : a.tmod 2 = 0 := by simpa using e
  omega

end Go.Proofs.Ytcoehkphdfejjaa
