/-
  The reference's functions on locations, and what they return.
-/
import Derived.Test.YtkaildgbjokmnaaDoorLocFns
namespace Go.Proofs.YtkaildgbjokmnaaDoor
open Go.RowKit
open Go.Lib (decDigits)

set_option maxRecDepth 100000 in
set_option maxHeartbeats 1000000 in
theorem inrange_any (l r s : Int) (w : World) (h0 : -9223372036854775808 ≤ l) (h1 : l ≤ 9223372036854775807) :
    Calls Tryd.prog 14 #[.int .i64 l, .int .i64 r, .int .i64 s] w fun e w' => e = .returned (.bool (inS l r s)) ∧ w = w' := by
  unfold inS
  by_cases hn : l < 0
  · rw [if_pos hn]
    go_enter Tryd.func14, Tryd.ntmps14
    go_wp2
    go_ret
    exact ⟨rfl, rfl⟩
  · rw [if_neg hn]
    have hl0 : 0 ≤ l := by omega
    by_cases h2 : l % 2 = 1
    · rw [if_pos h2]
      have e2 : Hid (true = decide (l % 2 = 1)) := Lib.hid (by simp [h2])
      clear h2
      go_enter Tryd.func14, Tryd.ntmps14
      go_wp2_with (first
        | (go_at_call 10; refine (isslot_int l true _ hl0 h1 e2.out).mono ?_; rintro e w' ⟨rfl, rfl⟩)
        | (go_at_call 11; refine (index_int l _ hl0 h1).mono ?_; rintro e w' ⟨rfl, rfl⟩))
      go_ret
      exact ⟨rfl, rfl⟩
    · rw [if_neg h2]
      have e2 : Hid (false = decide (l % 2 = 1)) := Lib.hid (by simp [h2])
      clear h2
      go_enter Tryd.func14, Tryd.ntmps14
      go_wp2_with (first
        | (go_at_call 10; refine (isslot_int l false _ hl0 h1 e2.out).mono ?_; rintro e w' ⟨rfl, rfl⟩)
        | (go_at_call 11; refine (index_int l _ hl0 h1).mono ?_; rintro e w' ⟨rfl, rfl⟩))
      go_ret
      exact ⟨rfl, rfl⟩

set_option maxRecDepth 100000 in
set_option maxHeartbeats 1000000 in
theorem rinrange_any (l r s : Int) (w : World) (h0 : -9223372036854775808 ≤ l) (h1 : l ≤ 9223372036854775807) :
    Calls Tryd.prog 15 #[.int .i64 l, .int .i64 r, .int .i64 s] w fun e w' => e = .returned (.bool (inS l r s)) ∧ w = w' := by
  unfold inS
  by_cases hn : l < 0
  · rw [if_pos hn]
    go_enter Tryd.func15, Tryd.ntmps15
    go_wp2
    go_ret
    exact ⟨rfl, rfl⟩
  · rw [if_neg hn]
    by_cases h2 : l % 2 = 1
    · rw [if_pos h2]
      go_enter Tryd.func15, Tryd.ntmps15
      go_wp2
      go_ret
      exact ⟨rfl, rfl⟩
    · rw [if_neg h2]
      go_enter Tryd.func15, Tryd.ntmps15
      go_wp2
      go_ret
      exact ⟨rfl, rfl⟩

/-- The reference's constant. -/
def digs : ByteArray := ⟨#[48, 49, 50, 51, 52, 53, 54, 55, 56, 57]⟩
theorem digs_at : ∀ i : Fin 10, (digs.extract i.val (i.val + 1)).data.toList = [UInt8.ofNat (48 + i.val)] := by decide +kernel

theorem digs_str {i : Nat} (h : i < 10) : digs.extract i (i + 1) = ⟨[UInt8.ofNat (48 + i)].toArray⟩ := by
  apply ByteArray.ext
  apply Array.ext'
  exact digs_at ⟨i, h⟩
theorem dec_size (n : Nat) (h : n < 10000000000000000000) : (decDigits n).length ≤ 19 := by
  rw [Lib.decDigits_length]
  rcases Nat.lt_or_ge 19 (Lib.nDigits n) with h1 | h1
  · exfalso
    obtain ⟨a, b, c, d⟩ := dec_all n
    have h2 := dv_ge _ a b (d (dec_len n (by rw [Lib.decDigits_length]; omega)))
    rw [c, Lib.decDigits_length] at h2
    have h3 := Nat.pow_le_pow_right (n := 10) (by decide) (show 19 ≤ Lib.nDigits n - 1 by omega)
    have h4 : (10 : Nat) ^ 19 = 10000000000000000000 := by decide
    omega
  · exact h1

set_option maxRecDepth 100000 in
set_option maxHeartbeats 1000000 in
theorem decimal_any (k : Nat) : ∀ (n : Nat) (w : World), n ≤ k → n < 9223372036854775808 →
    Calls Tryd.prog 21 #[.int .i64 n] w fun e w' => e = .returned (.string ⟨(decDigits n).toArray⟩) ∧ w = w' := by
  induction k with
  | zero =>
    intro n w hk hn
    have h10 : n < 10 := by omega
    have e := digs_str (i := n) h10
    go_enter Tryd.func21, Tryd.ntmps21
    go_wp2_with fail
    go_ret
    refine ⟨?_, rfl⟩
    rw [decDigits, dif_pos h10, ← e]
    show Ending.returned (Value.string (digs.extract (n % 10) (n % 10 + 1))) = _
    rw [Nat.mod_eq_of_lt h10]
  | succ k ih =>
    intro n w hk hn
    by_cases h10 : n < 10
    · have e := digs_str (i := n) h10
      go_enter Tryd.func21, Tryd.ntmps21
      go_wp2_with fail
      go_ret
      refine ⟨?_, rfl⟩
      rw [decDigits, dif_pos h10, ← e]
      show Ending.returned (Value.string (digs.extract (n % 10) (n % 10 + 1))) = _
      rw [Nat.mod_eq_of_lt h10]
    · have e := digs_str (i := n % 10) (Nat.mod_lt _ (by decide))
      have hsz := dec_size (n / 10) (by omega)
      have hsz2 : (digs.extract (n % 10) (n % 10 + 1)).size = 1 := by rw [e]; rfl
      go_enter Tryd.func21, Tryd.ntmps21
      go_wp2_with (go_at_call 21; refine (ih (n / 10) _ (by omega) (by omega)).mono ?_; rintro e w' ⟨rfl, rfl⟩)
      go_ret
      refine ⟨?_, rfl⟩
      show Ending.returned (Value.string (_ ++ digs.extract (n % 10) (n % 10 + 1))) = _
      rw [show decDigits n = decDigits (n / 10) ++ [UInt8.ofNat (48 + n % 10)] by rw [decDigits, dif_neg h10], e, ByteArray.mk_append_mk]

end Go.Proofs.YtkaildgbjokmnaaDoor
