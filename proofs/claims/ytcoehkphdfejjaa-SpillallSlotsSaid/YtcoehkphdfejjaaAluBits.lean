/-
  The reference's bits, one by one: bit and bits.
-/
import Derived.Test.YtcoehkphdfejjaaPk1
namespace Go.Proofs.Ytcoehkphdfejjaa
open Go.RowKit

theorem bit_val (n k : Nat) : ((((n / 2 ^ k : Nat) : Int) % 2 == 1) : Bool) = n.testBit k := by
  rw [Nat.testBit_eq_decide_div_mod_eq, Bool.eq_iff_iff, beq_iff_eq, decide_eq_true_iff]
  omega

theorem half_pow (n k : Nat) : n / 2 ^ k / 2 = n / 2 ^ (k + 1) := by rw [Nat.div_div_eq_div_mul, Nat.pow_succ]

/-- The table's answer. -/
def pickT (t0 t1 t2 t3 x y : Bool) : Bool := if x then (if y then t3 else t2) else (if y then t1 else t0)

/-- A place further. -/
theorem mod_step {F i : Nat} {t : Bool} (h : F.testBit i = t) : F % 2 ^ (i + 1) = F % 2 ^ i + if t then 2 ^ i else 0 := by
  subst h
  rw [Nat.mod_pow_succ, Nat.testBit_eq_decide_div_mod_eq]
  rcases Nat.mod_two_eq_zero_or_one (F / 2 ^ i) with e | e <;> rw [e] <;> simp

theorem pow_le63 {i : Nat} (h : i < 64) : 2 ^ i ≤ 9223372036854775808 := Nat.pow_le_pow_right (n := 2) (by omega) (show i ≤ 63 by omega)

end Go.Proofs.Ytcoehkphdfejjaa
