/-
  The walk of the statement on shifts of layer 6.
-/
import Derived.Test.YtahddhnfgonpmaaAluRef
import Derived.Test.YtahddhnfgonpmaaAluAwake
namespace Go.Proofs.Ytahddhnfgonpmaa
open Go.RowKit

set_option maxRecDepth 100000 in
theorem ref2_at (op a b v : Int) (w : World) (ha : InI a) (hb : InI b) (hv : ev op a b 0 = v) :
    Calls Try.prog 17 #[.int .i64 op, .int .i64 a, .int .i64 b] w fun e w' => e = .returned (.int .i64 v) ∧ Below w.heap.size w w' := by
  have HC := Lib.hid (reval_any op a b 0 w ha hb)
  rw [hv] at HC
  generalize evo op b = o at HC
  clear ha hb hv
  go_enter Try.func17, Try.ntmps17
  go_wp2_with fail
  refine HC.out.mono ?_
  rintro e w' ⟨rfl, hbl⟩
  have HB := Lib.hid hbl
  clear hbl
  go_wp2
  go_ret
  exact ⟨rfl, HB.out⟩

theorem beq_ret {p q : Bool} (h : p = q) : Ending.returned (.bool (p == q)) = .returned (.bool true) := by subst h; rw [beq_self_eq_true]
theorem cnt_of {b : Int} {k : Nat} (h : b % 64 = k) : cnt b = k := by unfold cnt; omega
theorem neg_shr (a : Int) (k : Nat) : decide (a / 2 ^ k < 0) = decide (a < 0) := by
  have hp : (0 : Int) < 2 ^ k := Int.pow_pos (by omega)
  by_cases h : a < 0
  · rw [decide_eq_true h, decide_eq_true (Int.ediv_neg_of_neg_of_pos h hp)]
  · rw [decide_eq_false h, decide_eq_false (by have := Int.ediv_nonneg (show 0 ≤ a by omega) (show (0 : Int) ≤ 2 ^ k by omega); omega)]
theorem shr_in {a : Int} (h : InI a) (k : Nat) : InI (a / 2 ^ k) := by
  have hp : (1 : Int) ≤ 2 ^ k := by have := Int.pow_pos (n := 2) (m := k) (by omega); omega
  unfold InI at *
  constructor
  · apply Decidable.byContradiction
    intro hn
    have h1 : a / 2 ^ k + 1 ≤ -9223372036854775808 := by omega
    have h2 := Int.lt_ediv_add_one_mul_self a (show (0 : Int) < 2 ^ k by omega)
    have h3 := Int.mul_le_mul_of_nonneg_right h1 (show (0 : Int) ≤ 2 ^ k by omega)
    have h4 := Int.mul_le_mul_of_nonpos_left (a := (-9223372036854775808 : Int)) (b := 2 ^ k) (c := 1) (by omega) hp
    omega
  · apply Decidable.byContradiction
    intro hn
    have h1 : 9223372036854775808 ≤ a / 2 ^ k := by omega
    have h2 := Int.ediv_mul_le a (show (2 : Int) ^ k ≠ 0 by omega)
    have h3 := Int.mul_le_mul_of_nonneg_right h1 (show (0 : Int) ≤ 2 ^ k by omega)
    have h4 := Int.mul_le_mul_of_nonneg_left hp (show (0 : Int) ≤ 9223372036854775808 by omega)
    omega
theorem shl_one (a : Int) (k : Nat) : wrap64 (wrap64 (a * 2 ^ k) * 2 ^ 1) = wrap64 (a * 2 ^ (k + 1)) := shl_step a k
theorem shr_one (a : Int) (k : Nat) : a / 2 ^ k / 2 ^ 1 = a / 2 ^ (k + 1) := shr_step a k

set_option maxRecDepth 100000 in
set_option maxHeartbeats 2000000 in
theorem AluShifts_walk (a0 a1 a2 : Int) (w : World) (w0 : (Lit.int .i64 a0).wf = true) (w1 : (Lit.int .u8 a1).wf = true) (w2 : (Lit.int .i64 a2).wf = true) :
    Calls Try.prog 7 #[.int .i64 a0, .int .u8 a1, .int .i64 a2] w fun e w' => e = .returned (.bool true) ∧ Below w.heap.size w w' := by
  have ha : InI a0 := i64_of_wf w0
  obtain ⟨n0, n1⟩ := u8_of_wf w1
  obtain ⟨m0, m1⟩ := i64_of_wf w2
  have hst := Below.refl w.heap.size w
  clear w0 w1 w2
  obtain ⟨k, hk⟩ : ∃ k : Nat, a1 % 64 = k := ⟨(a1 % 64).toNat, by omega⟩
  have hk64 : k < 64 := by omega
  have hki : InI k := by unfold InI; omega
  have hc0 : cnt (k : Int) = k := cnt_of (by omega)
  have h1i : InI 1 := lit_in 1 (by decide) (by decide)
  have C1 := Lib.hid (fun W => eval_at 13 a0 k 0 (wrap64 (a0 * 2 ^ k)) true W ha hki (by rw [ev_13, hc0]) rfl)
  have C2 := Lib.hid (fun W => eval_at 14 a0 k 0 (a0 / 2 ^ k) true W ha hki (by rw [ev_14, hc0]) rfl)
  have hneg := neg_shr a0 k
  have hyi := shr_in ha k
  have D1 : Hid (∀ z : Int, InI z → z % 64 = k → ∀ W, Calls Try.prog 16 #[.int .i64 13, .int .i64 a0, .int .i64 z, .int .i64 (wrap64 (a0 * 2 ^ k))] W fun e w' => e = .returned (.bool true) ∧ Below W.heap.size W w') :=
    fun z hz hz2 W => is_at 13 a0 z _ W ha hz rfl (by rw [ev_13, cnt_of hz2])
  have D2 : Hid (∀ z : Int, InI z → z % 64 = k → ∀ W, Calls Try.prog 16 #[.int .i64 14, .int .i64 a0, .int .i64 z, .int .i64 (a0 / 2 ^ k)] W fun e w' => e = .returned (.bool true) ∧ Below W.heap.size W w') :=
    fun z hz hz2 W => is_at 14 a0 z _ W ha hz rfl (by rw [ev_14, cnt_of hz2])
  have R1 : Hid (k < 63 → ∀ W, Calls Try.prog 17 #[.int .i64 13, .int .i64 a0, .int .i64 ((k : Int) + 1)] W fun e w' => e = .returned (.int .i64 (wrap64 (a0 * 2 ^ (k + 1)))) ∧ Below W.heap.size W w') :=
    fun h W => ref2_at 13 a0 _ _ W ha (by unfold InI; omega) (by rw [ev_13, cnt_of (k := k + 1) (by omega)])
  have R2 : Hid (k < 63 → ∀ W, Calls Try.prog 17 #[.int .i64 14, .int .i64 a0, .int .i64 ((k : Int) + 1)] W fun e w' => e = .returned (.int .i64 (a0 / 2 ^ (k + 1))) ∧ Below W.heap.size W w') :=
    fun h W => ref2_at 14 a0 _ _ W ha (by unfold InI; omega) (by rw [ev_14, cnt_of (k := k + 1) (by omega)])
  have E1 := Lib.hid (fun W => is_at 13 (wrap64 (a0 * 2 ^ k)) 1 (wrap64 (a0 * 2 ^ (k + 1))) W (w64_in _) h1i rfl (shl_one a0 k))
  have E2 := Lib.hid (fun W => is_at 14 (a0 / 2 ^ k) 1 (a0 / 2 ^ (k + 1)) W hyi h1i rfl (shr_one a0 k))
  generalize wrap64 (a0 * 2 ^ k) = x at *
  generalize a0 / 2 ^ k = y at *
  generalize wrap64 (a0 * 2 ^ (k + 1)) = x1 at *
  generalize a0 / 2 ^ (k + 1) = y1 at *
  obtain ⟨q, hq⟩ : ∃ q, a2.tmod 1000 = q := ⟨_, rfl⟩
  have hq1 : -1000 < q ∧ q < 1000 := by have := @tmod_abs a2 1000 (by omega); omega
  have HN := Lib.hid hneg
  have HK := Lib.hid hk
  obtain ⟨q0, q1⟩ := hq1
  obtain ⟨u0, u1⟩ := ha
  clear hc0 h1i hyi hki hneg hk
  by_cases h63 : k < 63
  · go_enter Try.func7, Try.ntmps7
    go_wp2_with fail
    refine (awake_any _).mono ?_
    rintro e w1 ⟨rfl, hb⟩
    replace hst := hst.trans (hb.mono hst.size); clear hb
    go_wp2_with fail
    rw [HK.out]
    refine (C1.out _).mono ?_
    rintro e w2 ⟨rfl, hb⟩
    replace hst := hst.trans (hb.mono hst.size); clear hb
    go_wp2_with fail
    refine (C2.out _).mono ?_
    rintro e w3 ⟨rfl, hb⟩
    replace hst := hst.trans (hb.mono hst.size); clear hb
    go_wp2_with fail
    refine (R1.out h63 _).mono ?_
    rintro e w4 ⟨rfl, hb⟩
    replace hst := hst.trans (hb.mono hst.size); clear hb
    go_wp2_with fail
    refine (E1.out _).mono ?_
    rintro e w5 ⟨rfl, hb⟩
    replace hst := hst.trans (hb.mono hst.size); clear hb
    go_wp2_with fail
    refine (R2.out h63 _).mono ?_
    rintro e w6 ⟨rfl, hb⟩
    replace hst := hst.trans (hb.mono hst.size); clear hb
    go_wp2_with fail
    refine (E2.out _).mono ?_
    rintro e w7 ⟨rfl, hb⟩
    replace hst := hst.trans (hb.mono hst.size); clear hb
    go_wp2_with fail
    refine (D1.out _ (by unfold InI; omega) (by omega) _).mono ?_
    rintro e w8 ⟨rfl, hb⟩
    replace hst := hst.trans (hb.mono hst.size); clear hb
    go_wp2_with fail
    refine (D2.out _ (by unfold InI; omega) (by omega) _).mono ?_
    rintro e w9 ⟨rfl, hb⟩
    replace hst := hst.trans (hb.mono hst.size); clear hb
    go_wp2
    go_ret
    exact ⟨beq_ret HN.out, hst⟩
  · go_enter Try.func7, Try.ntmps7
    go_wp2_with fail
    refine (awake_any _).mono ?_
    rintro e w1 ⟨rfl, hb⟩
    replace hst := hst.trans (hb.mono hst.size); clear hb
    go_wp2_with fail
    rw [HK.out]
    refine (C1.out _).mono ?_
    rintro e w2 ⟨rfl, hb⟩
    replace hst := hst.trans (hb.mono hst.size); clear hb
    go_wp2_with fail
    refine (C2.out _).mono ?_
    rintro e w3 ⟨rfl, hb⟩
    replace hst := hst.trans (hb.mono hst.size); clear hb
    go_wp2_with fail
    refine (D1.out _ (by unfold InI; omega) (by omega) _).mono ?_
    rintro e w8 ⟨rfl, hb⟩
    replace hst := hst.trans (hb.mono hst.size); clear hb
    go_wp2_with fail
    refine (D2.out _ (by unfold InI; omega) (by omega) _).mono ?_
    rintro e w9 ⟨rfl, hb⟩
    replace hst := hst.trans (hb.mono hst.size); clear hb
    go_wp2
    go_ret
    exact ⟨beq_ret HN.out, hst⟩

end Go.Proofs.Ytahddhnfgonpmaa
