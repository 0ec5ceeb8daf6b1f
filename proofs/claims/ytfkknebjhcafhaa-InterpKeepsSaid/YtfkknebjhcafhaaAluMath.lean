/-
  The results of operations: what the program and the reference both return, and the arithmetic of the statements.
-/
import Derived.Test.YtfkknebjhcafhaaBase
namespace Go.Proofs.Ytfkknebjhcafhaa
open Go.RowKit

def InI (n : Int) : Prop := -9223372036854775808 ≤ n ∧ n ≤ 9223372036854775807
theorem w64 (n : Int) : wrap64 n = (n + 9223372036854775808) % 18446744073709551616 - 9223372036854775808 := by unfold wrap64; omega
theorem w64_in (n : Int) : InI (wrap64 n) := by rw [w64]; unfold InI; omega
theorem w64_id {n : Int} (h : InI n) : wrap64 n = n := by rw [w64]; unfold InI at h; omega

/-- The count of a shift. -/
def cnt (b : Int) : Nat := (b % 64).toNat
theorem cnt_lt (b : Int) : cnt b < 64 := by unfold cnt; omega
theorem and63 (n : Int) : bits .and .i64 n 63 = n % 64 := by
  have h63 : (BitVec.ofInt 64 63).toNat = 2 ^ 6 - 1 := by decide
  have key : (BitVec.ofInt 64 n &&& BitVec.ofInt 64 63).toNat = (n % ((2 ^ 64 : Nat) : Int)).toNat % 2 ^ 6 := by
    rw [BitVec.toNat_and, BitVec.toNat_ofInt, h63, Nat.and_two_pow_sub_one_eq_mod]
  show IntKind.i64.wrap ((BitVec.ofInt 64 n &&& BitVec.ofInt 64 63).toNat : Nat) = n % 64
  rw [key, IntKind.wrap_i64]
  omega

/-- The bits of a number, as a natural number. -/
def ub (a : Int) : Nat := (a % 18446744073709551616).toNat
theorem ub_lt (a : Int) : ub a < 18446744073709551616 := by unfold ub; omega
theorem bits_ub (a b : Int) : bits .and .i64 a b = wrap64 ((ub a &&& ub b : Nat) : Int) ∧ bits .or .i64 a b = wrap64 ((ub a ||| ub b : Nat) : Int) ∧ bits .xor .i64 a b = wrap64 ((ub a ^^^ ub b : Nat) : Int) := by
  have e : ∀ x : Int, (BitVec.ofInt 64 x).toNat = ub x := fun x => by rw [BitVec.toNat_ofInt]; rfl
  refine ⟨?_, ?_, ?_⟩
  · show IntKind.i64.wrap ((BitVec.ofInt 64 a &&& BitVec.ofInt 64 b).toNat : Nat) = _
    rw [BitVec.toNat_and, e, e, IntKind.wrap_i64, w64]
  · show IntKind.i64.wrap ((BitVec.ofInt 64 a ||| BitVec.ofInt 64 b).toNat : Nat) = _
    rw [BitVec.toNat_or, e, e, IntKind.wrap_i64, w64]
  · show IntKind.i64.wrap ((BitVec.ofInt 64 a ^^^ BitVec.ofInt 64 b).toNat : Nat) = _
    rw [BitVec.toNat_xor, e, e, IntKind.wrap_i64, w64]

theorem xor_ones (a : Nat) (h : a < 18446744073709551616) : 18446744073709551615 ^^^ a = 18446744073709551615 - a := by
  have e := congrArg BitVec.toNat (BitVec.xor_allOnes (x := BitVec.ofNat 64 a))
  rw [BitVec.toNat_xor, BitVec.toNat_not, BitVec.toNat_ofNat, BitVec.toNat_allOnes, Nat.mod_eq_of_lt (by omega)] at e
  rw [Nat.xor_comm]
  exact e
theorem bits_not {a : Int} (h : InI a) : bits .xor .i64 (-1) a = -a - 1 := by
  rw [(bits_ub (-1) a).2.2, show ub (-1) = 18446744073709551615 from rfl, xor_ones _ (ub_lt a), w64]
  have := ub_lt a
  unfold ub at *
  unfold InI at h
  omega

theorem and_or_sum (x : Nat) : ∀ y : Nat, (x &&& y) + (x ||| y) = x + y := by
  induction x using Nat.strongRecOn with
  | _ x ih =>
    intro y
    rcases Nat.eq_zero_or_pos x with h0 | h0
    · subst h0; simp
    · have h := ih (x / 2) (by omega) (y / 2)
      have e1 : (x &&& y) / 2 = x / 2 &&& y / 2 := Nat.and_div_two
      have e2 : (x ||| y) / 2 = x / 2 ||| y / 2 := Nat.or_div_two
      have m1 : (x &&& y) % 2 = x % 2 &&& y % 2 := by have := @Nat.and_mod_two_pow x y 1; simpa using this
      have m2 : (x ||| y) % 2 = x % 2 ||| y % 2 := by have := @Nat.or_mod_two_pow x y 1; simpa using this
      rw [← e1, ← e2] at h
      rcases Nat.mod_two_eq_zero_or_one x with hx | hx <;> rcases Nat.mod_two_eq_zero_or_one y with hy | hy <;> rw [hx, hy] at m1 m2 <;> simp only [Nat.reduceAnd, Nat.reduceOr] at m1 m2 <;> omega
theorem xor_and_or (x : Nat) : ∀ y : Nat, (x ^^^ y) + (x &&& y) = x ||| y := by
  induction x using Nat.strongRecOn with
  | _ x ih =>
    intro y
    rcases Nat.eq_zero_or_pos x with h0 | h0
    · subst h0; simp
    · have h := ih (x / 2) (by omega) (y / 2)
      have e1 : (x &&& y) / 2 = x / 2 &&& y / 2 := Nat.and_div_two
      have e2 : (x ||| y) / 2 = x / 2 ||| y / 2 := Nat.or_div_two
      have e3 : (x ^^^ y) / 2 = x / 2 ^^^ y / 2 := Nat.xor_div_two
      have m1 : (x &&& y) % 2 = x % 2 &&& y % 2 := by have := @Nat.and_mod_two_pow x y 1; simpa using this
      have m2 : (x ||| y) % 2 = x % 2 ||| y % 2 := by have := @Nat.or_mod_two_pow x y 1; simpa using this
      have m3 : (x ^^^ y) % 2 = x % 2 ^^^ y % 2 := by have := @Nat.xor_mod_two_pow x y 1; simpa using this
      rw [← e1, ← e2, ← e3] at h
      rcases Nat.mod_two_eq_zero_or_one x with hx | hx <;> rcases Nat.mod_two_eq_zero_or_one y with hy | hy <;> rw [hx, hy] at m1 m2 m3 <;> simp only [Nat.reduceAnd, Nat.reduceOr, Nat.reduceXor] at m1 m2 m3 <;> omega

/-- A truth value as an integer. -/
def tr (t : Bool) : Int := if t then 1 else 0

/-- The result of an operation with two operands. -/
def bin (op : Int) (a b : Int) : Int :=
  if op = 5 then wrap64 (a + b) else if op = 6 then wrap64 (a - b) else if op = 7 then wrap64 (a * b) else if op = 8 then wrap64 (a.tdiv b) else if op = 9 then a.tmod b
  else if op = 10 then bits .and .i64 a b else if op = 11 then bits .or .i64 a b else if op = 12 then bits .xor .i64 a b
  else if op = 13 then wrap64 (a * 2 ^ cnt b) else if op = 14 then a / 2 ^ cnt b else if op = 15 then tr (a == b) else tr (decide (a < b))

/-- Whether there is a result, and the result. -/
def evo (op b : Int) : Bool := decide (1 ≤ op ∧ op ≤ 16) && !(decide (op = 8 ∨ op = 9) && decide (b = 0))
def ev (op a b imm : Int) : Int :=
  if op = 1 then imm else if op = 2 then a else if op = 3 then wrap64 (-a) else if op = 4 then -a - 1 else if evo op b then bin op a b else 0

theorem ev_1 (a b i : Int) : ev 1 a b i = i := rfl
theorem ev_2 (a b i : Int) : ev 2 a b i = a := rfl
theorem ev_3 (a b i : Int) : ev 3 a b i = wrap64 (-a) := rfl
theorem ev_4 (a b i : Int) : ev 4 a b i = -a - 1 := rfl
theorem ev_5 (a b i : Int) : ev 5 a b i = wrap64 (a + b) := rfl
theorem ev_6 (a b i : Int) : ev 6 a b i = wrap64 (a - b) := rfl
theorem ev_7 (a b i : Int) : ev 7 a b i = wrap64 (a * b) := rfl
theorem evo_8 {b : Int} (h : ¬ b = 0) : evo 8 b = true := by unfold evo; rw [decide_eq_false h]; rfl
theorem evo_9 {b : Int} (h : ¬ b = 0) : evo 9 b = true := by unfold evo; rw [decide_eq_false h]; rfl
theorem ev_8 {b : Int} (h : ¬ b = 0) (a i : Int) : ev 8 a b i = wrap64 (a.tdiv b) := by
  show (if evo 8 b then bin 8 a b else 0) = _
  rw [evo_8 h]; rfl
theorem ev_9 {b : Int} (h : ¬ b = 0) (a i : Int) : ev 9 a b i = a.tmod b := by
  show (if evo 9 b then bin 9 a b else 0) = _
  rw [evo_9 h]; rfl
theorem ev_10 (a b i : Int) : ev 10 a b i = bits .and .i64 a b := rfl
theorem ev_11 (a b i : Int) : ev 11 a b i = bits .or .i64 a b := rfl
theorem ev_12 (a b i : Int) : ev 12 a b i = bits .xor .i64 a b := rfl
theorem ev_13 (a b i : Int) : ev 13 a b i = wrap64 (a * 2 ^ cnt b) := rfl
theorem ev_14 (a b i : Int) : ev 14 a b i = a / 2 ^ cnt b := rfl
theorem ev_15 (a b i : Int) : ev 15 a b i = tr (a == b) := rfl
theorem ev_16 (a b i : Int) : ev 16 a b i = tr (decide (a < b)) := rfl
theorem evo_out {op : Int} (h : ¬ (1 ≤ op ∧ op ≤ 16)) (b : Int) : evo op b = false := by unfold evo; rw [decide_eq_false h]; rfl
theorem ev_out {op : Int} (h : ¬ (1 ≤ op ∧ op ≤ 16)) (a b i : Int) : ev op a b i = 0 := by
  unfold ev
  rw [evo_out h, if_neg (by omega), if_neg (by omega), if_neg (by omega), if_neg (by omega)]
  rfl
theorem evo_88 : evo 8 0 = false := rfl
theorem evo_90 : evo 9 0 = false := rfl
theorem ev_80 (a i : Int) : ev 8 a 0 i = 0 := rfl
theorem ev_90 (a i : Int) : ev 9 a 0 i = 0 := rfl

end Go.Proofs.Ytfkknebjhcafhaa
