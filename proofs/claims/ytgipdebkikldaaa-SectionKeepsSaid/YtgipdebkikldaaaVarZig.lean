/-
  The zigzag code: the program's functions and the reference's return what zz and uz compute.
-/
import Derived.Test.YtgipdebkikldaaaBase
namespace Go.Proofs.Ytgipdebkikldaaa
open Go.RowKit

def zz (n : Int) : Int := if 0 ≤ n then 2 * n else -2 * n - 1
def uz (u : Int) : Int := if u % 2 = 0 then u / 2 else -(u / 2) - 1

def InI (n : Int) : Prop := -9223372036854775808 ≤ n ∧ n ≤ 9223372036854775807
def InU (u : Int) : Prop := 0 ≤ u ∧ u ≤ 18446744073709551615
theorem zz_in {n : Int} (h : InI n) : InU (zz n) := by unfold InI InU zz at *; split <;> omega
theorem uz_in {u : Int} (h : InU u) : InI (uz u) := by unfold InI InU uz at *; split <;> omega
theorem uz_zz (n : Int) : uz (zz n) = n := by unfold uz zz; split <;> split <;> omega
theorem zz_uz {u : Int} (h : InU u) : zz (uz u) = u := by unfold InU uz zz at *; split <;> split <;> omega

theorem zz_pos {n : Int} (h : 0 ≤ n) : 2 * n = zz n := by unfold zz; rw [if_pos h]
theorem zz_neg {n : Int} (h : n < 0) : 2 * -(n + 1) + 1 = zz n := by unfold zz; rw [if_neg (by omega)]; omega
theorem uz_even {u : Int} (h : (u % 2 == 0) = true) : u / 2 = uz u := by unfold uz; rw [if_pos (beq_iff_eq.1 h)]
theorem uz_odd {u : Int} (h : (u % 2 == 0) = false) : -(u / 2) - 1 = uz u := by unfold uz; rw [if_neg (beq_eq_false_iff_ne.1 h)]
theorem xor_ones (a : Nat) (h : a < 18446744073709551616) : a ^^^ 18446744073709551615 = 18446744073709551615 - a := by
  have e := congrArg BitVec.toNat (BitVec.xor_allOnes (x := BitVec.ofNat 64 a))
  rw [BitVec.toNat_xor, BitVec.toNat_not, BitVec.toNat_ofNat, BitVec.toNat_allOnes, Nat.mod_eq_of_lt (by omega)] at e
  exact e
theorem zig_bits (n : Int) (h : InI n) : bits .xor .u64 (IntKind.u64.wrap (IntKind.u64.wrap n * 2)) (IntKind.u64.wrap (n / 9223372036854775808)) = zz n := by
  obtain ⟨h0, h1⟩ := h
  rw [IntKind.wrap_u64, IntKind.wrap_u64, IntKind.wrap_u64, u64_xor _ _ (by omega) (by omega) (by omega) (by omega)]
  unfold zz
  split
  · have e1 : n % 18446744073709551616 * 2 % 18446744073709551616 = 2 * n := by omega
    have e2 : n / 9223372036854775808 % 18446744073709551616 = 0 := by omega
    rw [e1, e2, Int.toNat_zero, Nat.xor_zero]
    omega
  · have e2 : n / 9223372036854775808 % 18446744073709551616 = 18446744073709551615 := by omega
    rw [e2, show (18446744073709551615 : Int).toNat = 18446744073709551615 from rfl, xor_ones _ (by omega)]
    omega
theorem unzig_bits (u : Int) (h : InU u) : bits .xor .i64 (u / 2) (wrap64 (-wrap64 (bits .and .u64 u 1))) = uz u := by
  obtain ⟨h0, h1⟩ := h
  obtain ⟨n, rfl⟩ := Int.eq_ofNat_of_zero_le h0
  have ha : bits .and .u64 (n : Int) 1 = ((n % 2 : Nat) : Int) := by
    have := u64_and_nat n 1 (by omega) (by omega)
    rwa [nat_mask1] at this
  rw [ha]
  have hm : bits .xor .i64 ((n : Int) / 2) (wrap64 (-wrap64 ((n % 2 : Nat) : Int))) = IntKind.i64.wrap ((BitVec.ofInt 64 ((n : Int) / 2) ^^^ BitVec.ofInt 64 (wrap64 (-wrap64 ((n % 2 : Nat) : Int)))).toNat : Int) := rfl
  rw [hm, BitVec.toNat_xor, show ((n : Int) / 2) = ((n / 2 : Nat) : Int) by omega, ofInt_u64 (n / 2) (by omega), IntKind.wrap_i64]
  unfold uz
  split
  · have e1 : wrap64 (-wrap64 ((n % 2 : Nat) : Int)) = ((0 : Nat) : Int) := by unfold wrap64; omega
    rw [e1, ofInt_u64 0 (by omega), Nat.xor_zero]
    omega
  · have e1 : wrap64 (-wrap64 ((n % 2 : Nat) : Int)) = -1 := by unfold wrap64; omega
    rw [e1, show (BitVec.ofInt 64 (-1)).toNat = 18446744073709551615 from rfl, xor_ones _ (by omega)]
    omega

end Go.Proofs.Ytgipdebkikldaaa
