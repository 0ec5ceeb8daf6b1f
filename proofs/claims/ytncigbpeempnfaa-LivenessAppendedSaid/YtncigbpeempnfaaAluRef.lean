/-
  The reference's Eval.
-/
import Derived.Test.YtncigbpeempnfaaAluBits
import Derived.Deep.WholeRow
namespace Go.Proofs.Ytncigbpeempnfaa
open Go.RowKit

theorem tup2 {k : IntKind} {a a' : Int} {b b' : Bool} (h1 : a = a') (h2 : b = b') : Ending.returned (.tuple #[.int k a, .bool b]) = .returned (.tuple #[.int k a', .bool b']) := by rw [h1, h2]

/-! Division. -/

theorem tmod_abs {a b : Int} (h : ¬ b = 0) : (a.tmod b).natAbs < b.natAbs := by
  rw [Int.natAbs_tmod]
  exact Nat.mod_lt _ (by omega)

theorem tmod_le (a b : Int) : (a.tmod b).natAbs ≤ a.natAbs := by
  rw [Int.natAbs_tmod]
  exact Nat.mod_le _ _

theorem tmod_pos {a : Int} (b : Int) (h : 0 ≤ a) : 0 ≤ a.tmod b := Int.tmod_nonneg b h

theorem tmod_neg' {a : Int} (b : Int) (h : a < 0) : a.tmod b ≤ 0 := by
  have := Int.tmod_nonneg b (show 0 ≤ -a by omega)
  rw [Int.neg_tmod] at this
  omega

theorem tdiv_in {a b : Int} (ha : InI a) (h0 : ¬ b = 0) (h1 : ¬ b = -1) : InI (a.tdiv b) := by
  by_cases hb : b = 1
  · subst hb
    rwa [Int.tdiv_one]
  · have e := Int.natAbs_tdiv a b
    have h2 : 2 ≤ b.natAbs := by omega
    have h3 : a.natAbs.div b.natAbs ≤ a.natAbs / 2 := Nat.div_le_div_left h2 (by omega)
    unfold InI at *
    omega

theorem rem_val {a b : Int} (ha : InI a) (h0 : ¬ b = 0) (h1 : ¬ b = -1) : wrap64 (a - wrap64 (b * wrap64 (a.tdiv b))) = a.tmod b := by
  rw [w64_id (tdiv_in ha h0 h1)]
  have e := Int.mul_tdiv_add_tmod a b
  have l := tmod_le a b
  have p1 := @tmod_pos a b
  have p2 := @tmod_neg' a b
  generalize b * a.tdiv b = q at *
  generalize a.tmod b = r at *
  have e2 : q = a - r := by omega
  subst e2
  rw [w64, w64]
  unfold InI at ha
  omega

theorem tdiv_m1 (a : Int) : a.tdiv (-1) = -a := by rw [Int.tdiv_neg, Int.tdiv_one]

theorem tmod_m1 (a : Int) : a.tmod (-1) = 0 := by rw [Int.tmod_neg, Int.tmod_one]

/-! Shifts. -/

theorem cnt_val (b : Int) : wrap64 ((IntKind.u64.wrap b).tmod 64) = (cnt b : Int) := by
  rw [IntKind.wrap_u64, Int.tmod_eq_emod_of_nonneg (by omega), w64]
  unfold cnt
  omega

theorem shl_step (a : Int) (k : Nat) : wrap64 (wrap64 (a * 2 ^ k) * 2) = wrap64 (a * 2 ^ (k + 1)) := by
  rw [Int.pow_succ, ← Int.mul_assoc]
  generalize a * 2 ^ k = x
  simp only [w64]
  omega

theorem shr_step (a : Int) (k : Nat) : a / 2 ^ k / 2 = a / 2 ^ (k + 1) := by
  rw [Int.ediv_ediv_of_nonneg (Int.pow_nonneg (by omega)), Int.pow_succ]

theorem half_neg {a : Int} (h : a < 0) (e : (a.tmod 2 != 0) = true) (ha : InI a) : wrap64 (a.tdiv 2 - 1) = a / 2 := by
  have e1 := Int.mul_tdiv_add_tmod a 2
  have e2 := tmod_neg' 2 h
  have e3 := @tmod_abs a 2 (by omega)
  have e4 : a.tmod 2 ≠ 0 := by simpa using e
  unfold InI at ha
  rw [w64]
  omega

theorem half_even {a : Int} (e : (a.tmod 2 != 0) = false) : a.tdiv 2 = a / 2 := by
  have e1 := Int.mul_tdiv_add_tmod a 2
  have e4 : a.tmod 2 = 0 := by simpa using e
  omega

theorem rtruth_any (t : Bool) (w : World) :
    Calls Try.prog 53 #[.bool t] w fun e w' => e = .returned (.int .i64 (tr t)) ∧ w = w' := by
  cases t
  all_goals
    go_enter Try.func53, Try.ntmps53
    go_wp2
    go_ret
    exact ⟨rfl, rfl⟩

set_option maxRecDepth 100000 in
theorem half_any (a : Int) (w : World) (ha : InI a) :
    Calls Try.prog 52 #[.int .i64 a] w fun e w' => e = .returned (.int .i64 (a / 2)) ∧ w = w' := by
  have HA := Lib.hid ha
  obtain ⟨a0, a1⟩ := ha
  go_enter Try.func52, Try.ntmps52
  go_wp2
  all_goals go_ret
  · exact ⟨ret1 (half_neg (by assumption) (by assumption) HA.out), rfl⟩
  · exact ⟨ret1 (half_even (by assumption)), rfl⟩
  · exact ⟨rfl, rfl⟩

set_option maxRecDepth 100000 in
theorem reval_1 (a b i : Int) (w : World) (ha : InI a) (hb : InI b) :
    Calls Try.prog 42 #[.int .i64 1, .int .i64 a, .int .i64 b, .int .i64 i] w fun e w' => e = .returned (.tuple #[.int .i64 (ev 1 a b i), .bool (evo 1 b)]) ∧ Below w.heap.size w w' := by
  obtain ⟨a0, a1⟩ := ha
  obtain ⟨b0, b1⟩ := hb
  go_enter Try.func42, Try.ntmps42
  go_wp2
  go_ret2
  exact ⟨tup2 (by rw [ev_1]) rfl, Below.refl _ _⟩

set_option maxRecDepth 100000 in
theorem reval_2 (a b i : Int) (w : World) (ha : InI a) (hb : InI b) :
    Calls Try.prog 42 #[.int .i64 2, .int .i64 a, .int .i64 b, .int .i64 i] w fun e w' => e = .returned (.tuple #[.int .i64 (ev 2 a b i), .bool (evo 2 b)]) ∧ Below w.heap.size w w' := by
  obtain ⟨a0, a1⟩ := ha
  obtain ⟨b0, b1⟩ := hb
  go_enter Try.func42, Try.ntmps42
  go_wp2
  go_ret2
  exact ⟨tup2 (by rw [ev_2]) rfl, Below.refl _ _⟩

set_option maxRecDepth 100000 in
theorem reval_3 (a b i : Int) (w : World) (ha : InI a) (hb : InI b) :
    Calls Try.prog 42 #[.int .i64 3, .int .i64 a, .int .i64 b, .int .i64 i] w fun e w' => e = .returned (.tuple #[.int .i64 (ev 3 a b i), .bool (evo 3 b)]) ∧ Below w.heap.size w w' := by
  obtain ⟨a0, a1⟩ := ha
  obtain ⟨b0, b1⟩ := hb
  go_enter Try.func42, Try.ntmps42
  go_wp2
  go_ret2
  exact ⟨tup2 (by rw [ev_3]) rfl, Below.refl _ _⟩

set_option maxRecDepth 100000 in
theorem reval_4 (a b i : Int) (w : World) (ha : InI a) (hb : InI b) :
    Calls Try.prog 42 #[.int .i64 4, .int .i64 a, .int .i64 b, .int .i64 i] w fun e w' => e = .returned (.tuple #[.int .i64 (ev 4 a b i), .bool (evo 4 b)]) ∧ Below w.heap.size w w' := by
  obtain ⟨a0, a1⟩ := ha
  obtain ⟨b0, b1⟩ := hb
  go_enter Try.func42, Try.ntmps42
  go_wp2
  go_ret2
  exact ⟨tup2 (by rw [ev_4]; simp only [w64]; omega) rfl, Below.refl _ _⟩

set_option maxRecDepth 100000 in
theorem reval_5 (a b i : Int) (w : World) (ha : InI a) (hb : InI b) :
    Calls Try.prog 42 #[.int .i64 5, .int .i64 a, .int .i64 b, .int .i64 i] w fun e w' => e = .returned (.tuple #[.int .i64 (ev 5 a b i), .bool (evo 5 b)]) ∧ Below w.heap.size w w' := by
  obtain ⟨a0, a1⟩ := ha
  obtain ⟨b0, b1⟩ := hb
  go_enter Try.func42, Try.ntmps42
  go_wp2
  go_ret2
  exact ⟨tup2 (by rw [ev_5]) rfl, Below.refl _ _⟩

set_option maxRecDepth 100000 in
theorem reval_6 (a b i : Int) (w : World) (ha : InI a) (hb : InI b) :
    Calls Try.prog 42 #[.int .i64 6, .int .i64 a, .int .i64 b, .int .i64 i] w fun e w' => e = .returned (.tuple #[.int .i64 (ev 6 a b i), .bool (evo 6 b)]) ∧ Below w.heap.size w w' := by
  obtain ⟨a0, a1⟩ := ha
  obtain ⟨b0, b1⟩ := hb
  go_enter Try.func42, Try.ntmps42
  go_wp2
  go_ret2
  exact ⟨tup2 (by rw [ev_6]) rfl, Below.refl _ _⟩

set_option maxRecDepth 100000 in
theorem reval_7 (a b i : Int) (w : World) (ha : InI a) (hb : InI b) :
    Calls Try.prog 42 #[.int .i64 7, .int .i64 a, .int .i64 b, .int .i64 i] w fun e w' => e = .returned (.tuple #[.int .i64 (ev 7 a b i), .bool (evo 7 b)]) ∧ Below w.heap.size w w' := by
  obtain ⟨a0, a1⟩ := ha
  obtain ⟨b0, b1⟩ := hb
  go_enter Try.func42, Try.ntmps42
  go_wp2
  go_ret2
  exact ⟨tup2 (by rw [ev_7]) rfl, Below.refl _ _⟩

set_option maxRecDepth 100000 in
theorem reval_8 (a b i : Int) (w : World) (ha : InI a) (hb : InI b) :
    Calls Try.prog 42 #[.int .i64 8, .int .i64 a, .int .i64 b, .int .i64 i] w fun e w' => e = .returned (.tuple #[.int .i64 (ev 8 a b i), .bool (evo 8 b)]) ∧ Below w.heap.size w w' := by
  obtain ⟨a0, a1⟩ := ha
  obtain ⟨b0, b1⟩ := hb
  by_cases h0 : b = 0
  · subst h0
    go_enter Try.func42, Try.ntmps42
    go_wp2
    go_ret2
    exact ⟨rfl, Below.refl _ _⟩
  · rw [ev_8 h0, evo_8 h0]
    by_cases h1 : b = -1
    · subst h1
      rw [tdiv_m1]
      clear h0
      go_enter Try.func42, Try.ntmps42
      go_wp2
      go_ret2
      exact ⟨tup2 (by first | rfl | (simp only [w64]; omega)) rfl, Below.refl _ _⟩
    · have e0 : (b == 0) = false := beq_eq_false_iff_ne.2 h0
      have e1 : (b == -1) = false := beq_eq_false_iff_ne.2 h1
      clear h1
      go_enter Try.func42, Try.ntmps42
      go_wp2
      go_ret2
      exact ⟨rfl, Below.refl _ _⟩

set_option maxRecDepth 100000 in
theorem reval_9 (a b i : Int) (w : World) (ha : InI a) (hb : InI b) :
    Calls Try.prog 42 #[.int .i64 9, .int .i64 a, .int .i64 b, .int .i64 i] w fun e w' => e = .returned (.tuple #[.int .i64 (ev 9 a b i), .bool (evo 9 b)]) ∧ Below w.heap.size w w' := by
  have HA := Lib.hid ha
  obtain ⟨a0, a1⟩ := ha
  obtain ⟨b0, b1⟩ := hb
  by_cases h0 : b = 0
  · subst h0
    go_enter Try.func42, Try.ntmps42
    go_wp2
    go_ret2
    exact ⟨rfl, Below.refl _ _⟩
  · rw [ev_9 h0, evo_9 h0]
    by_cases h1 : b = -1
    · subst h1
      rw [tmod_m1]
      clear h0
      go_enter Try.func42, Try.ntmps42
      go_wp2
      go_ret2
      exact ⟨tup2 (by simp only [w64]; omega) rfl, Below.refl _ _⟩
    · have e0 : (b == 0) = false := beq_eq_false_iff_ne.2 h0
      have e1 : (b == -1) = false := beq_eq_false_iff_ne.2 h1
      have HR := Lib.hid (rem_val HA.out h0 h1)
      clear h1
      go_enter Try.func42, Try.ntmps42
      go_wp2
      go_ret2
      exact ⟨tup2 HR.out rfl, Below.refl _ _⟩

/-- A table of four truth values in a new block. -/
theorem rbits_at (a b r : Int) (t0 t1 t2 t3 : Bool) (F : Nat) (w : World) (ha : InI a) (hb : InI b) (hF : F < 18446744073709551616) (hbit : ∀ i, F.testBit i = pickT t0 t1 t2 t3 ((ub a).testBit i) ((ub b).testBit i)) (hr : r = wrap64 F) :
    Calls Try.prog 51 #[.int .i64 a, .int .i64 b, .slice (some ⟨w.heap.size, 0, none⟩) 4 4] (w.alloc (.cells #[.bool t0, .bool t1, .bool t2, .bool t3] 4)) fun e w' => e = .returned (.int .i64 r) ∧ w.alloc (.cells #[.bool t0, .bool t1, .bool t2, .bool t3] 4) = w' := by
  subst hr
  have hh := heap_alloc_last w (.cells #[.bool t0, .bool t1, .bool t2, .bool t3] 4)
  exact bits_any a b t0 t1 t2 t3 F w.heap.size _ ha hb hF hbit (cell_of_row _ _ 0 _ _ _ hh) (cell_of_row _ _ 1 _ _ _ hh) (cell_of_row _ _ 2 _ _ _ hh) (cell_of_row _ _ 3 _ _ _ hh)

set_option maxRecDepth 100000 in
theorem reval_10 (a b i : Int) (w : World) (ha : InI a) (hb : InI b) :
    Calls Try.prog 42 #[.int .i64 10, .int .i64 a, .int .i64 b, .int .i64 i] w fun e w' => e = .returned (.tuple #[.int .i64 (ev 10 a b i), .bool (evo 10 b)]) ∧ Below w.heap.size w w' := by
  rw [ev_10, show evo 10 b = true from rfl]
  have HC := Lib.hid (rbits_at a b _ false false false true (ub a &&& ub b) w ha hb (Nat.and_lt_two_pow (n := 64) _ (ub_lt b)) (fun i => by rw [Nat.testBit_and]; cases (ub a).testBit i <;> cases (ub b).testBit i <;> rfl) (bits_ub a b).1)
  clear ha hb
  go_enter Try.func42, Try.ntmps42
  go_wp2_with fail
  refine HC.out.mono ?_
  rintro e w' ⟨rfl, rfl⟩
  go_wp2
  go_ret2
  exact ⟨rfl, (Below.refl _ _).alloc (Nat.le_refl _) _⟩

set_option maxRecDepth 100000 in
theorem reval_11 (a b i : Int) (w : World) (ha : InI a) (hb : InI b) :
    Calls Try.prog 42 #[.int .i64 11, .int .i64 a, .int .i64 b, .int .i64 i] w fun e w' => e = .returned (.tuple #[.int .i64 (ev 11 a b i), .bool (evo 11 b)]) ∧ Below w.heap.size w w' := by
  rw [ev_11, show evo 11 b = true from rfl]
  have HC := Lib.hid (rbits_at a b _ false true true true (ub a ||| ub b) w ha hb (Nat.or_lt_two_pow (n := 64) (ub_lt a) (ub_lt b)) (fun i => by rw [Nat.testBit_or]; cases (ub a).testBit i <;> cases (ub b).testBit i <;> rfl) (bits_ub a b).2.1)
  clear ha hb
  go_enter Try.func42, Try.ntmps42
  go_wp2_with fail
  refine HC.out.mono ?_
  rintro e w' ⟨rfl, rfl⟩
  go_wp2
  go_ret2
  exact ⟨rfl, (Below.refl _ _).alloc (Nat.le_refl _) _⟩

set_option maxRecDepth 100000 in
theorem reval_12 (a b i : Int) (w : World) (ha : InI a) (hb : InI b) :
    Calls Try.prog 42 #[.int .i64 12, .int .i64 a, .int .i64 b, .int .i64 i] w fun e w' => e = .returned (.tuple #[.int .i64 (ev 12 a b i), .bool (evo 12 b)]) ∧ Below w.heap.size w w' := by
  rw [ev_12, show evo 12 b = true from rfl]
  have HC := Lib.hid (rbits_at a b _ false true true false (ub a ^^^ ub b) w ha hb (Nat.xor_lt_two_pow (n := 64) (ub_lt a) (ub_lt b)) (fun i => by rw [Nat.testBit_xor]; cases (ub a).testBit i <;> cases (ub b).testBit i <;> rfl) (bits_ub a b).2.2)
  clear ha hb
  go_enter Try.func42, Try.ntmps42
  go_wp2_with fail
  refine HC.out.mono ?_
  rintro e w' ⟨rfl, rfl⟩
  go_wp2
  go_ret2
  exact ⟨rfl, (Below.refl _ _).alloc (Nat.le_refl _) _⟩

set_option maxRecDepth 100000 in
theorem reval_13 (a b i : Int) (w : World) (ha : InI a) :
    Calls Try.prog 42 #[.int .i64 13, .int .i64 a, .int .i64 b, .int .i64 i] w fun e w' => e = .returned (.tuple #[.int .i64 (ev 13 a b i), .bool (evo 13 b)]) ∧ Below w.heap.size w w' := by
  rw [ev_13, show evo 13 b = true from rfl]
  have HC := cnt_val b
  have hlt := cnt_lt b
  have HS := Lib.hid (shl_step a)
  obtain ⟨n, hn⟩ : ∃ n, n = cnt b := ⟨_, rfl⟩
  rw [← hn] at HC hlt ⊢
  clear hn
  go_enter Try.func42, Try.ntmps42
  go_wp2
  (try rw [HC])
  clear HC
  go_loop [1, 12] (fun v c => ∃ (k : Nat) (z : Int), k ≤ n ∧ c = .int .i64 k ∧ v = .int .i64 z ∧ -9223372036854775808 ≤ z ∧ z ≤ 9223372036854775807 ∧ Hid (z = wrap64 (a * 2 ^ k))) (fun _ c => n - (intOf c).toNat)
  case atStart => exact ⟨0, a, Nat.zero_le _, rfl, rfl, ha.1, ha.2, by rw [Int.pow_zero, Int.mul_one]; exact (w64_id ha).symm⟩
  case round =>
    obtain ⟨k, z, hk, rfl, rfl, hz0, hz1, HZ⟩ := hrel
    clear ha
    by_cases hk2 : k < n
    · have HN := Lib.hid (HS.out k)
      go_wp2
      go_round
      case rel => exact ⟨k + 1, wrap64 (z * 2), by omega, by go_num, rfl, (w64_in _).1, (w64_in _).2, by rw [HZ.out]; exact HN.out⟩
      case measure => simp [intOf]; omega
    · have HK := Lib.hid (show k = n by omega)
      go_wp2
      go_ret2
      exact ⟨tup2 (by rw [HZ.out, HK.out]) rfl, Below.refl _ _⟩

set_option maxRecDepth 100000 in
theorem reval_14 (a b i : Int) (w : World) (ha : InI a) :
    Calls Try.prog 42 #[.int .i64 14, .int .i64 a, .int .i64 b, .int .i64 i] w fun e w' => e = .returned (.tuple #[.int .i64 (ev 14 a b i), .bool (evo 14 b)]) ∧ Below w.heap.size w w' := by
  rw [ev_14, show evo 14 b = true from rfl]
  have HC := cnt_val b
  have hlt := cnt_lt b
  have HS := Lib.hid (shr_step a)
  obtain ⟨n, hn⟩ : ∃ n, n = cnt b := ⟨_, rfl⟩
  rw [← hn] at HC hlt ⊢
  clear hn
  go_enter Try.func42, Try.ntmps42
  go_wp2
  (try rw [HC])
  clear HC
  go_loop [1, 12] (fun v c => ∃ (k : Nat) (z : Int), k ≤ n ∧ c = .int .i64 k ∧ v = .int .i64 z ∧ -9223372036854775808 ≤ z ∧ z ≤ 9223372036854775807 ∧ Hid (z = a / 2 ^ k)) (fun _ c => n - (intOf c).toNat)
  case atStart => exact ⟨0, a, Nat.zero_le _, rfl, rfl, ha.1, ha.2, by rw [Int.pow_zero, Int.ediv_one]; rfl⟩
  case round =>
    obtain ⟨k, z, hk, rfl, rfl, hz0, hz1, HZ⟩ := hrel
    clear ha
    by_cases hk2 : k < n
    · have HN := Lib.hid (HS.out k)
      go_wp2_with fail
      refine (half_any z _ ⟨hz0, hz1⟩).mono ?_
      rintro e w' ⟨rfl, rfl⟩
      go_wp2
      go_round
      case rel => exact ⟨k + 1, z / 2, by omega, by go_num, rfl, by omega, by omega, by rw [HZ.out]; exact HN.out⟩
      case measure => simp [intOf]; omega
    · have HK := Lib.hid (show k = n by omega)
      go_wp2
      go_ret2
      exact ⟨tup2 (by rw [HZ.out, HK.out]) rfl, Below.refl _ _⟩

set_option maxRecDepth 100000 in
theorem reval_15 (a b i : Int) (w : World) :
    Calls Try.prog 42 #[.int .i64 15, .int .i64 a, .int .i64 b, .int .i64 i] w fun e w' => e = .returned (.tuple #[.int .i64 (ev 15 a b i), .bool (evo 15 b)]) ∧ Below w.heap.size w w' := by
  rw [ev_15, show evo 15 b = true from rfl]
  have HC := Lib.hid (rtruth_any (a == b) w)
  go_enter Try.func42, Try.ntmps42
  go_wp2_with fail
  refine HC.out.mono ?_
  rintro e w' ⟨rfl, rfl⟩
  go_wp2
  go_ret2
  exact ⟨rfl, Below.refl _ _⟩

set_option maxRecDepth 100000 in
theorem reval_16 (a b i : Int) (w : World) :
    Calls Try.prog 42 #[.int .i64 16, .int .i64 a, .int .i64 b, .int .i64 i] w fun e w' => e = .returned (.tuple #[.int .i64 (ev 16 a b i), .bool (evo 16 b)]) ∧ Below w.heap.size w w' := by
  rw [ev_16, show evo 16 b = true from rfl]
  have HC := Lib.hid (rtruth_any (decide (a < b)) w)
  go_enter Try.func42, Try.ntmps42
  go_wp2_with fail
  refine HC.out.mono ?_
  rintro e w' ⟨rfl, rfl⟩
  go_wp2
  go_ret2
  exact ⟨rfl, Below.refl _ _⟩

set_option maxRecDepth 100000 in
theorem reval_out (op a b i : Int) (w : World) (h : ¬ (1 ≤ op ∧ op ≤ 16)) :
    Calls Try.prog 42 #[.int .i64 op, .int .i64 a, .int .i64 b, .int .i64 i] w fun e w' => e = .returned (.tuple #[.int .i64 (ev op a b i), .bool (evo op b)]) ∧ Below w.heap.size w w' := by
  rw [ev_out h, evo_out h]
  have e1 : (op == 1) = false := beq_eq_false_iff_ne.2 (by omega)
  have e2 : (op == 2) = false := beq_eq_false_iff_ne.2 (by omega)
  have e3 : (op == 3) = false := beq_eq_false_iff_ne.2 (by omega)
  have e4 : (op == 4) = false := beq_eq_false_iff_ne.2 (by omega)
  have e5 : (op == 5) = false := beq_eq_false_iff_ne.2 (by omega)
  have e6 : (op == 6) = false := beq_eq_false_iff_ne.2 (by omega)
  have e7 : (op == 7) = false := beq_eq_false_iff_ne.2 (by omega)
  have e8 : (op == 8) = false := beq_eq_false_iff_ne.2 (by omega)
  have e9 : (op == 9) = false := beq_eq_false_iff_ne.2 (by omega)
  have e10 : (op == 10) = false := beq_eq_false_iff_ne.2 (by omega)
  have e11 : (op == 11) = false := beq_eq_false_iff_ne.2 (by omega)
  have e12 : (op == 12) = false := beq_eq_false_iff_ne.2 (by omega)
  have e13 : (op == 13) = false := beq_eq_false_iff_ne.2 (by omega)
  have e14 : (op == 14) = false := beq_eq_false_iff_ne.2 (by omega)
  have e15 : (op == 15) = false := beq_eq_false_iff_ne.2 (by omega)
  have e16 : (op == 16) = false := beq_eq_false_iff_ne.2 (by omega)
  clear h
  go_enter Try.func42, Try.ntmps42
  go_wp2
  go_ret2
  exact ⟨rfl, Below.refl _ _⟩

theorem reval_any (op a b i : Int) (w : World) (ha : InI a) (hb : InI b) :
    Calls Try.prog 42 #[.int .i64 op, .int .i64 a, .int .i64 b, .int .i64 i] w fun e w' => e = .returned (.tuple #[.int .i64 (ev op a b i), .bool (evo op b)]) ∧ Below w.heap.size w w' := by
  by_cases h : 1 ≤ op ∧ op ≤ 16
  · have : op = 1 ∨ op = 2 ∨ op = 3 ∨ op = 4 ∨ op = 5 ∨ op = 6 ∨ op = 7 ∨ op = 8 ∨ op = 9 ∨ op = 10 ∨ op = 11 ∨ op = 12 ∨ op = 13 ∨ op = 14 ∨ op = 15 ∨ op = 16 := by omega
    rcases this with rfl | rfl | rfl | rfl | rfl | rfl | rfl | rfl | rfl | rfl | rfl | rfl | rfl | rfl | rfl | rfl
    · exact reval_1 a b i w ha hb
    · exact reval_2 a b i w ha hb
    · exact reval_3 a b i w ha hb
    · exact reval_4 a b i w ha hb
    · exact reval_5 a b i w ha hb
    · exact reval_6 a b i w ha hb
    · exact reval_7 a b i w ha hb
    · exact reval_8 a b i w ha hb
    · exact reval_9 a b i w ha hb
    · exact reval_10 a b i w ha hb
    · exact reval_11 a b i w ha hb
    · exact reval_12 a b i w ha hb
    · exact reval_13 a b i w ha
    · exact reval_14 a b i w ha
    · exact reval_15 a b i w
    · exact reval_16 a b i w
  · exact reval_out op a b i w h

end Go.Proofs.Ytncigbpeempnfaa
