/-
  Lengths: math/bits.Len64, and the program's Len, which returns how many bytes the encoding has.
-/
import Derived.Test.YtacmgfndmolnfaaPk1
import Derived.Lib.BitFns
import Derived.Lib.ItoaNum
namespace Go.Proofs.Ytacmgfndmolnfaa
open Go.RowKit

/-- An entry of the table of lengths. -/
theorem tab_at (i : Nat) (h : i < Lib.len8tab.size) : (Lib.len8tab[i]).toNat = Lib.bitLen i := by
  have hi : i < 256 := by rwa [Lib.len8tab_size] at h
  have e := Lib.len8_eq ⟨i, hi⟩
  simp only [Lib.len8, Int.toNat_natCast, ByteArray.getElem?_lt' _ _ h, Option.getD_some] at e
  omega

theorem len_end {s d : Nat} {x y : Int} (h0 : 0 ≤ x) (hx : x < 18446744073709551616) (hd : d = 2 ^ s) (hb : d ≤ x.toNat) (hy : y = x / d) (hy' : y < 256)
    {h : y.toNat < Lib.len8tab.size} : (s : Int) + ((Lib.len8tab[y.toNat]).toNat : Int) = (Lib.bitLen x.toNat : Int) := by
  subst hd
  have e := Lib.bitLen_shift s x.toNat hb (by omega)
  have hyn : y.toNat = x.toNat / 2 ^ s := by
    subst hy
    obtain ⟨n, rfl⟩ := Int.eq_ofNat_of_zero_le h0
    rw [← Int.natCast_ediv, Int.toNat_natCast, Int.toNat_natCast]
  rw [tab_at, hyn, e]
  omega
theorem len_end0 {x : Int} {h : x.toNat < Lib.len8tab.size} : ((Lib.len8tab[x.toNat]).toNat : Int) = (Lib.bitLen x.toNat : Int) := by rw [tab_at]
theorem tab_le (i : Nat) (h : i < Lib.len8tab.size) : (Lib.len8tab[i]).toNat ≤ 8 := by
  have hi : i < 256 := by rwa [Lib.len8tab_size] at h
  rw [tab_at]
  exact Lib.bitLen_le8 ⟨i, hi⟩
theorem wrap64_small {x : Int} (h0 : 0 ≤ x) (h1 : x ≤ 1000) : wrap64 x = x := by unfold wrap64; omega
theorem wrap_end {s n : Nat} (hs : s ≤ 56) (hn : n ≤ 8) : wrap64 ((s : Int) + wrap64 (n : Int)) = (s : Int) + n := by
  rw [wrap64_small (x := (n : Int)) (by omega) (by omega), wrap64_small (by omega) (by omega)]
theorem wrap_end0 {n : Nat} (hn : n ≤ 8) : wrap64 (wrap64 (n : Int)) = n := by
  rw [wrap64_small (x := (n : Int)) (by omega) (by omega), wrap64_small (by omega) (by omega)]

set_option maxRecDepth 100000 in
set_option maxHeartbeats 1000000 in
theorem len64_any (x : Int) (w : World) (h0 : 0 ≤ x) (h1 : x ≤ 18446744073709551615) :
    Calls Try.prog 88 #[.int .u64 x] w fun e w' => e = .returned (.int .i64 (Lib.bitLen x.toNat)) ∧ w = w' := by
  have hsz := Lib.len8tab_size
  go_enter Try.func88, Try.ntmps88
  go_wp2
  all_goals (go_ret; refine ⟨congrArg Ending.returned (congrArg (Value.int IntKind.i64) ?_), rfl⟩)
  all_goals first
    | exact (wrap_end0 (tab_le _ _)).trans len_end0
    | exact (wrap_end (s := 56) (by decide) (tab_le _ _)).trans (len_end (s := 56) (d := 72057594037927936) h0 (by omega) (by decide) (by omega) (by omega) (by omega))
    | exact (wrap_end (s := 48) (by decide) (tab_le _ _)).trans (len_end (s := 48) (d := 281474976710656) h0 (by omega) (by decide) (by omega) (by omega) (by omega))
    | exact (wrap_end (s := 40) (by decide) (tab_le _ _)).trans (len_end (s := 40) (d := 1099511627776) h0 (by omega) (by decide) (by omega) (by omega) (by omega))
    | exact (wrap_end (s := 32) (by decide) (tab_le _ _)).trans (len_end (s := 32) (d := 4294967296) h0 (by omega) (by decide) (by omega) (by omega) (by omega))
    | exact (wrap_end (s := 24) (by decide) (tab_le _ _)).trans (len_end (s := 24) (d := 16777216) h0 (by omega) (by decide) (by omega) (by omega) (by omega))
    | exact (wrap_end (s := 16) (by decide) (tab_le _ _)).trans (len_end (s := 16) (d := 65536) h0 (by omega) (by decide) (by omega) (by omega) (by omega))
    | exact (wrap_end (s := 8) (by decide) (tab_le _ _)).trans (len_end (s := 8) (d := 256) h0 (by omega) (by decide) (by omega) (by omega) (by omega))

/-- How many digits the encoding has. -/
def lenS (v : Nat) : Nat := (putS v).length

theorem putS_last (v : Nat) (hv : v < 18446744073709551616) : ∃ x, x < 128 ∧ (putS v)[lenS v - 1]? = some x := by
  have hp := putS_pos v
  refine ⟨v / 128 ^ (lenS v - 1) % 128, Nat.mod_lt _ (by omega), ?_⟩
  unfold lenS
  rw [putS_get v _ (by omega) (by omega), if_neg (by omega)]
  rfl

theorem bitLen_sides (x : Nat) (h : x ≠ 0) (hx : x < 2 ^ 64) : 2 ^ (Lib.bitLen x - 1) ≤ x ∧ x < 2 ^ Lib.bitLen x ∧ 1 ≤ Lib.bitLen x := by
  obtain ⟨a, b, c⟩ := Lib.bitLenAux_bounds 64 x hx h
  exact ⟨b, c, a⟩

theorem len_digits (v : Nat) (hv : v < 18446744073709551616) : (Lib.bitLen (v ||| 1) + 6) / 7 = lenS v := by
  have hlt := putS_lt v (by omega)
  have hge := putS_ge v
  have hpos := putS_pos v
  unfold lenS
  generalize (putS v).length = m at hlt hge hpos
  have ho : v ||| 1 = v / 2 * 2 + 1 := by
    have := nat_join 1 (v / 2 * 2) 1 (by simp) (by decide)
    rw [← this]
    apply Nat.eq_of_testBit_eq
    intro i
    rw [Nat.testBit_or, Nat.testBit_or]
    cases i with
    | zero => simp
    | succ i => rw [Nat.testBit_succ, Nat.testBit_succ (x := v / 2 * 2)]; simp
  have hs := bitLen_sides (v ||| 1) (by omega) (by omega)
  generalize Lib.bitLen (v ||| 1) = n at hs
  obtain ⟨s1, s2, s3⟩ := hs
  rw [ho] at s1 s2
  have e7 : (128 : Nat) ^ m = 2 ^ (7 * m) := by rw [Nat.pow_mul]
  have h1 : n - 1 < 7 * m := by
    apply (Nat.pow_lt_pow_iff_right (a := 2) (by decide)).1
    have he : 2 ^ (7 * m) % 2 = 0 := by
      rw [show 7 * m = (7 * m - 1) + 1 by omega, Nat.pow_succ]
      exact Nat.mul_mod_left _ _
    rw [← e7] at he ⊢
    omega
  by_cases hm : m = 1
  · omega
  · have h2 := hge.resolve_left hm
    have e8 : (128 : Nat) ^ (m - 1) = 2 ^ (7 * (m - 1)) := by rw [Nat.pow_mul]
    have h3 : 7 * (m - 1) < n := by
      apply (Nat.pow_lt_pow_iff_right (a := 2) (by decide)).1
      rw [← e8]
      omega
    omega

set_option maxRecDepth 100000 in
set_option maxHeartbeats 1000000 in
theorem len_any (v : Int) (w : World) (h0 : 0 ≤ v) (h1 : v ≤ 18446744073709551615) :
    Calls Try.prog 86 #[.int .u64 v] w fun e w' => e = .returned (.int .i64 (lenS v.toNat)) ∧ w = w' := by
  obtain ⟨n, rfl⟩ := Int.eq_ofNat_of_zero_le h0
  have hl := Lib.hid (len_digits n (by omega))
  have hor : bits .or .u64 (n : Int) 1 = ((n ||| 1 : Nat) : Int) := u64_or_nat n 1 (by omega) (by omega)
  have hb : n ||| 1 < 18446744073709551616 := Nat.or_lt_two_pow (n := 64) (by omega) (by decide)
  have hbl : Lib.bitLen (n ||| 1) ≤ 64 := Lib.bitLen_le _ 64 (by omega) (by omega)
  go_enter Try.func86, Try.ntmps86
  go_wp2_with (go_at_call 88; refine (len64_any _ _ (by omega) (by omega)).mono ?_; rintro e w' ⟨rfl, rfl⟩)
  go_ret
  exact ⟨ret1 (by rw [Int.toNat_natCast, ← hl.out]; omega), rfl⟩

end Go.Proofs.Ytacmgfndmolnfaa
