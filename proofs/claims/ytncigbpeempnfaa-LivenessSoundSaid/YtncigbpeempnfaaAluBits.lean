/-
  The reference's bits, one by one: bit and bits.
-/
import Derived.Test.YtncigbpeempnfaaPk1
namespace Go.Proofs.Ytncigbpeempnfaa
open Go.RowKit

theorem bit_val (n k : Nat) : ((((n / 2 ^ k : Nat) : Int) % 2 == 1) : Bool) = n.testBit k := by
  rw [Nat.testBit_eq_decide_div_mod_eq, Bool.eq_iff_iff, beq_iff_eq, decide_eq_true_iff]
  omega

theorem half_pow (n k : Nat) : n / 2 ^ k / 2 = n / 2 ^ (k + 1) := by rw [Nat.div_div_eq_div_mul, Nat.pow_succ]

set_option maxRecDepth 100000 in
set_option maxHeartbeats 1000000 in
theorem bit_any (n i : Nat) (w : World) (hn : n < 18446744073709551616) (hi : i ≤ 64) :
    Calls Try.prog 57 #[.int .u64 n, .int .i64 i] w fun e w' => e = .returned (.bool (n.testBit i)) ∧ w = w' := by
  go_enter Try.func57, Try.ntmps57
  go_wp2
  go_loop [0, 5] (fun v c => ∃ k m : Nat, k ≤ i ∧ m < 18446744073709551616 ∧ c = .int .i64 k ∧ v = .int .u64 m ∧ Hid (m = n / 2 ^ k)) (fun _ c => i - (intOf c).toNat)
  case atStart => exact ⟨0, n, Nat.zero_le _, hn, rfl, rfl, by simp [Hid]⟩
  case round =>
    obtain ⟨k, m, hk, hm, rfl, rfl, HM⟩ := hrel
    by_cases hlt : k < i
    · go_wp2
      go_round
      case rel => exact ⟨k + 1, m / 2, by omega, by omega, by go_num, by go_num, by rw [HM.out, half_pow]; rfl⟩
      case measure => simp [intOf]; omega
    · have HV := Lib.hid (bit_val n k)
      have HK := Lib.hid (show k = i by omega)
      go_wp2
      go_ret
      exact ⟨by rw [← HK.out, ← HV.out, ← HM.out]; rfl, rfl⟩

theorem bit_at (x : Int) (y : Int) (n i : Nat) (t : Bool) (w : World) (hx : x = n) (hy : y = i) (hn : n < 18446744073709551616) (hi : i ≤ 64) (ht : n.testBit i = t) :
    Calls Try.prog 57 #[.int .u64 x, .int .i64 y] w fun e w' => e = .returned (.bool t) ∧ w = w' := by
  subst hx; subst hy; subst ht
  exact bit_any n i w hn hi

/-- The table's answer. -/
def pickT (t0 t1 t2 t3 x y : Bool) : Bool := if x then (if y then t3 else t2) else (if y then t1 else t0)

/-- A place further. -/
theorem mod_step {F i : Nat} {t : Bool} (h : F.testBit i = t) : F % 2 ^ (i + 1) = F % 2 ^ i + if t then 2 ^ i else 0 := by
  subst h
  rw [Nat.mod_pow_succ, Nat.testBit_eq_decide_div_mod_eq]
  rcases Nat.mod_two_eq_zero_or_one (F / 2 ^ i) with e | e <;> rw [e] <;> simp

theorem pow_le63 {i : Nat} (h : i < 64) : 2 ^ i ≤ 9223372036854775808 := Nat.pow_le_pow_right (n := 2) (by omega) (show i ≤ 63 by omega)

set_option maxRecDepth 100000 in
set_option maxHeartbeats 2000000 in
theorem bits_any (a b : Int) (t0 t1 t2 t3 : Bool) (F : Nat) (p : Nat) (w : World) (ha : InI a) (hb : InI b) (hF : F < 18446744073709551616) (hbit : ∀ i, F.testBit i = pickT t0 t1 t2 t3 ((ub a).testBit i) ((ub b).testBit i))
    (c0 : w.cell? ⟨p, 0, none⟩ = some (.bool t0)) (c1 : w.cell? ⟨p, 1, none⟩ = some (.bool t1)) (c2 : w.cell? ⟨p, 2, none⟩ = some (.bool t2)) (c3 : w.cell? ⟨p, 3, none⟩ = some (.bool t3)) :
    Calls Try.prog 51 #[.int .i64 a, .int .i64 b, .slice (some ⟨p, 0, none⟩) 4 4] w fun e w' => e = .returned (.int .i64 (wrap64 F)) ∧ w = w' := by
  have HA := Lib.hid ha; have HB := Lib.hid hb; have HF := Lib.hid hF; have HT := Lib.hid hbit
  clear ha hb hF hbit
  go_enter Try.func51, Try.ntmps51
  go_wp2
  go_loop [7, 8, 9, 10] (fun o q c _ => ∃ k m r : Nat, k ≤ 64 ∧ c = .int .i64 k ∧ o = .int .u64 m ∧ q = .int .u64 r ∧ Hid (m = F % 2 ^ k ∧ r = 2 ^ k % 18446744073709551616)) (fun _ _ c _ => 64 - (intOf c).toNat)
  case atStart => exact ⟨0, 0, 1, Nat.zero_le _, rfl, rfl, rfl, by rw [Nat.pow_zero, Nat.mod_one], rfl⟩
  case round =>
    obtain ⟨k, m, r, hk, rfl, rfl, rfl, HM⟩ := hrel
    by_cases hlt : k < 64
    · have hr : r = 2 ^ k := by rw [HM.out.2, Nat.mod_eq_of_lt (by have := pow_le63 hlt; omega)]
      have hr63 : r ≤ 9223372036854775808 := hr ▸ pow_le63 hlt
      have hmr : m < r := by rw [HM.out.1, hr]; exact Nat.mod_lt _ (Nat.two_pow_pos k)
      obtain ⟨x, hx⟩ : ∃ x, (ub a).testBit k = x := ⟨_, rfl⟩
      obtain ⟨y, hy⟩ : ∃ y, (ub b).testBit k = y := ⟨_, rfl⟩
      have HS : Hid (F % 2 ^ (k + 1) = m + if pickT t0 t1 t2 t3 x y then r else 0) := by
        have := mod_step (HT.out k)
        rw [hx, hy] at this
        show _ = _
        rw [this, HM.out.1, ← hr]
      have HR : Hid (2 ^ (k + 1) % 18446744073709551616 = r * 2 % 18446744073709551616) := by show _ = _; rw [Nat.pow_succ, ← hr]
      have HX := Lib.hid hx; have HY := Lib.hid hy
      clear hr hx hy
      go_wp2_with fail
      refine (bit_at _ _ (ub a) k x _ (by rw [IntKind.wrap_u64]; unfold ub; omega) rfl (ub_lt a) hk HX.out).mono ?_
      rintro e w' ⟨rfl, rfl⟩
      cases x
      · go_wp2_with fail
        refine (bit_at _ _ (ub b) k y _ (by rw [IntKind.wrap_u64]; unfold ub; omega) rfl (ub_lt b) hk HY.out).mono ?_
        rintro e w' ⟨rfl, rfl⟩
        cases y
        · cases t0
          · go_wp2
            go_round
            case rel => exact ⟨k + 1, m, r * 2 % 18446744073709551616, by omega, by go_num, by go_num, by rw [IntKind.wrap_u64]; go_num, HS.out.symm, HR.out.symm⟩
            case measure => simp [intOf]; omega
          · go_wp2
            go_round
            case rel => exact ⟨k + 1, m + r, r * 2 % 18446744073709551616, by omega, by go_num, by go_num, by rw [IntKind.wrap_u64]; go_num, HS.out.symm, HR.out.symm⟩
            case measure => simp [intOf]; omega
        · cases t1
          · go_wp2
            go_round
            case rel => exact ⟨k + 1, m, r * 2 % 18446744073709551616, by omega, by go_num, by go_num, by rw [IntKind.wrap_u64]; go_num, HS.out.symm, HR.out.symm⟩
            case measure => simp [intOf]; omega
          · go_wp2
            go_round
            case rel => exact ⟨k + 1, m + r, r * 2 % 18446744073709551616, by omega, by go_num, by go_num, by rw [IntKind.wrap_u64]; go_num, HS.out.symm, HR.out.symm⟩
            case measure => simp [intOf]; omega
      · go_wp2_with fail
        refine (bit_at _ _ (ub b) k y _ (by rw [IntKind.wrap_u64]; unfold ub; omega) rfl (ub_lt b) hk HY.out).mono ?_
        rintro e w' ⟨rfl, rfl⟩
        cases y
        · cases t2
          · go_wp2
            go_round
            case rel => exact ⟨k + 1, m, r * 2 % 18446744073709551616, by omega, by go_num, by go_num, by rw [IntKind.wrap_u64]; go_num, HS.out.symm, HR.out.symm⟩
            case measure => simp [intOf]; omega
          · go_wp2
            go_round
            case rel => exact ⟨k + 1, m + r, r * 2 % 18446744073709551616, by omega, by go_num, by go_num, by rw [IntKind.wrap_u64]; go_num, HS.out.symm, HR.out.symm⟩
            case measure => simp [intOf]; omega
        · cases t3
          · go_wp2
            go_round
            case rel => exact ⟨k + 1, m, r * 2 % 18446744073709551616, by omega, by go_num, by go_num, by rw [IntKind.wrap_u64]; go_num, HS.out.symm, HR.out.symm⟩
            case measure => simp [intOf]; omega
          · go_wp2
            go_round
            case rel => exact ⟨k + 1, m + r, r * 2 % 18446744073709551616, by omega, by go_num, by go_num, by rw [IntKind.wrap_u64]; go_num, HS.out.symm, HR.out.symm⟩
            case measure => simp [intOf]; omega
    · have HK : Hid (m = F) := by
        show m = F
        rw [HM.out.1, show k = 64 by omega, Nat.mod_eq_of_lt (by have := HF.out; exact this)]
      go_wp2
      go_ret
      exact ⟨by rw [← HK.out]; rfl, rfl⟩

end Go.Proofs.Ytncigbpeempnfaa
