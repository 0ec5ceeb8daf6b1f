/-
  The walk of the statement on division of layer 6.
-/
import Derived.Test.YtahddhnfgonpmaaAluRef
import Derived.Test.YtahddhnfgonpmaaAluAwake
namespace Go.Proofs.Ytahddhnfgonpmaa
open Go.RowKit

theorem w64_mulr (x y : Int) : wrap64 (x * wrap64 y) = wrap64 (x * y) := by
  have h : ∃ k, wrap64 y = y + 18446744073709551616 * k := ⟨(wrap64 y - y) / 18446744073709551616, by rw [w64]; omega⟩
  obtain ⟨k, hk⟩ := h
  rw [hk, Int.mul_add, show x * (18446744073709551616 * k) = 18446744073709551616 * (x * k) by rw [← Int.mul_assoc, Int.mul_comm x, Int.mul_assoc], w64, w64]
  omega

/-- Quotient and remainder, by what the statement asks. -/
structure QR (a b q r : Int) : Prop where
  back : wrap64 (wrap64 (b * q) + r) = a
  pos : 0 ≤ a → 0 ≤ r
  neg : a < 0 → r ≤ 0
  lt : r < b.natAbs
  gt : -(b.natAbs : Int) < r
  iq : InI q
  least : b = -9223372036854775808 → (a = b ∧ q = 1 ∧ r = 0) ∨ (a ≠ b ∧ q = 0 ∧ r = a)

theorem qr_any {a b : Int} (ha : InI a) (h0 : ¬ b = 0) : QR a b (wrap64 (a.tdiv b)) (a.tmod b) where
  back := by
    rw [w64_mulr]
    have e := Int.mul_tdiv_add_tmod a b
    rw [w64, w64]
    unfold InI at ha
    omega
  pos := tmod_pos b
  neg := tmod_neg' b
  lt := by have := @tmod_abs a b h0; omega
  gt := by have := @tmod_abs a b h0; omega
  iq := w64_in _
  least := fun hb => by
    by_cases h : a = b
    · subst h
      exact .inl ⟨rfl, by rw [Int.tdiv_self h0]; rw [w64]; rfl, Int.tmod_self⟩
    · right
      have e1 := Int.natAbs_tdiv a b
      have e2 := Int.mul_tdiv_add_tmod a b
      have h3 : a.natAbs < b.natAbs := by unfold InI at ha; omega
      have h4 : a.natAbs.div b.natAbs = 0 := Nat.div_eq_of_lt h3
      have h5 : a.tdiv b = 0 := by omega
      rw [h5] at e2 ⊢
      exact ⟨h, by rw [w64]; rfl, by rw [Int.mul_zero] at e2; omega⟩

set_option maxRecDepth 100000 in
set_option maxHeartbeats 2000000 in
theorem AluDivision_walk (a0 a1 : Int) (w : World) (w0 : (Lit.int .i64 a0).wf = true) (w1 : (Lit.int .i64 a1).wf = true) :
    Calls Try.prog 5 #[.int .i64 a0, .int .i64 a1] w fun e w' => e = .returned (.bool true) ∧ Below w.heap.size w w' := by
  have ha : InI a0 := i64_of_wf w0
  have hb : InI a1 := i64_of_wf w1
  have hst := Below.refl w.heap.size w
  clear w0 w1
  by_cases h0 : a1 = 0
  · subst h0
    have HQ := Lib.hid (fun W => eval_at 8 a0 0 0 0 false W ha hb rfl rfl)
    have HR := Lib.hid (fun W => eval_at 9 a0 0 0 0 false W ha hb rfl rfl)
    clear ha hb
    go_enter Try.func5, Try.ntmps5
    go_wp2_with fail
    refine (awake_any _).mono ?_
    rintro e w1 ⟨rfl, hb⟩
    replace hst := hst.trans (hb.mono hst.size); clear hb
    go_wp2_with fail
    refine (HQ.out _).mono ?_
    rintro e w2 ⟨rfl, hb⟩
    replace hst := hst.trans (hb.mono hst.size); clear hb
    go_wp2_with fail
    refine (HR.out _).mono ?_
    rintro e w3 ⟨rfl, hb⟩
    replace hst := hst.trans (hb.mono hst.size); clear hb
    go_wp2
    go_ret
    exact ⟨rfl, hst⟩
  · have hqr := qr_any ha h0
    have HQ := Lib.hid (fun W => eval_at 8 a0 a1 0 _ true W ha hb (ev_8 h0 a0 0) (evo_8 h0))
    have HR := Lib.hid (fun W => eval_at 9 a0 a1 0 _ true W ha hb (ev_9 h0 a0 0) (evo_9 h0))
    generalize wrap64 (a0.tdiv a1) = q at hqr HQ
    generalize a0.tmod a1 = r at hqr HR
    have e0 : (a1 == 0) = false := beq_eq_false_iff_ne.2 h0
    have eb := hqr.back
    obtain ⟨a00, a01⟩ := ha
    obtain ⟨b00, b01⟩ := hb
    obtain ⟨q00, q01⟩ := hqr.iq
    have l1 := hqr.lt; have l2 := hqr.gt; have hp := hqr.pos; have hn := hqr.neg; have hl := hqr.least
    have r00 : -9223372036854775808 ≤ r := by omega
    have r01 : r ≤ 9223372036854775807 := by omega
    have HL1 := Lib.hid l1; have HL2 := Lib.hid l2; have HP := Lib.hid hp; have HN := Lib.hid hn; have HL := Lib.hid hl
    clear hqr l1 l2 hp hn hl
    go_enter Try.func5, Try.ntmps5
    go_wp2_with fail
    refine (awake_any _).mono ?_
    rintro e w1 ⟨rfl, hb⟩
    replace hst := hst.trans (hb.mono hst.size); clear hb
    go_wp2_with fail
    refine (HQ.out _).mono ?_
    rintro e w2 ⟨rfl, hb⟩
    replace hst := hst.trans (hb.mono hst.size); clear hb
    go_wp2_with fail
    refine (HR.out _).mono ?_
    rintro e w3 ⟨rfl, hb⟩
    replace hst := hst.trans (hb.mono hst.size); clear hb
    have hsg : ((r != 0) = false ∧ (r == 0) = true) ∨ ((r != 0) = true ∧ (r == 0) = false ∧ r < 0 ∧ a0 < 0) ∨ ((r != 0) = true ∧ (r == 0) = false ∧ decide (r < 0) = false ∧ decide (a0 < 0) = false) := by
      have p1 := HP.out; have p2 := HN.out
      by_cases hr : r = 0
      · exact .inl ⟨by simp [hr], by simp [hr]⟩
      · have e1 : (r != 0) = true := by simp [hr]
        have e2 : (r == 0) = false := by simp [hr]
        by_cases hneg : a0 < 0
        · exact .inr (.inl ⟨e1, e2, by have := p2 hneg; omega, hneg⟩)
        · exact .inr (.inr ⟨e1, e2, decide_eq_false (by have := p1 (by omega); omega), decide_eq_false (by omega)⟩)
    have hmm : (a1 == -9223372036854775808) = true ∨ ((a1 == -9223372036854775808) = false ∧ -9223372036854775808 < a1 ∧ ((a1 < 0 ∧ a1 < r ∧ r < -a1) ∨ (0 ≤ a1 ∧ -a1 < r ∧ r < a1))) := by
      have p1 := HL1.out; have p2 := HL2.out
      by_cases hm : a1 = -9223372036854775808
      · exact .inl (beq_iff_eq.2 hm)
      · refine .inr ⟨beq_eq_false_iff_ne.2 hm, by omega, ?_⟩
        simp only [Hid] at *
        omega
    rcases hmm with hm | ⟨hm, hgt, ⟨h3, h4, h5⟩ | ⟨h3, h4, h5⟩⟩
    · rcases HL.out (beq_iff_eq.1 hm) with ⟨g1, g2, g3⟩ | ⟨g1, g2, g3⟩
      · have q1 : (q == 0) = false := by simp [g2]
        have q2 : (q == 1) = true := by simp [g2]
        have e4 : (a0 == a1) = true := beq_iff_eq.2 g1
        have e5 : (r != 0) = false := by simp [g3]
        have e6 : (r == 0) = true := by simp [g3]
        clear hsg g1 g2 g3
        go_wp2
        go_ret
        exact ⟨rfl, hst⟩
      · have q1 : (q == 0) = true := by simp [g2]
        have e4 : (r == a0) = true := beq_iff_eq.2 g3
        clear g1 g2 g3
        rcases hsg with ⟨s1, s2⟩ | ⟨s1, s2, s3, s4⟩ | ⟨s1, s2, s3, s4⟩
        all_goals
          go_wp2
          go_ret
          exact ⟨rfl, hst⟩
    · have e6 : decide (a1 < r) = true := decide_eq_true h4
      have e7 : decide (r < -a1) = true := decide_eq_true h5
      rcases hsg with ⟨s1, s2⟩ | ⟨s1, s2, s3, s4⟩ | ⟨s1, s2, s3, s4⟩
      all_goals
        go_wp2
        go_ret
        exact ⟨rfl, hst⟩
    · have e6 : decide (-a1 < r) = true := decide_eq_true h4
      have e7 : decide (r < a1) = true := decide_eq_true h5
      rcases hsg with ⟨s1, s2⟩ | ⟨s1, s2, s3, s4⟩ | ⟨s1, s2, s3, s4⟩
      all_goals
        go_wp2
        go_ret
        exact ⟨rfl, hst⟩

end Go.Proofs.Ytahddhnfgonpmaa
