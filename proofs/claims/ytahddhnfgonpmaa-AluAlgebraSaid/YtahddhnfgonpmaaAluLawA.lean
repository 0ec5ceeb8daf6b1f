/-
  The walk of the statement on the algebra of layer 6.
-/
import Derived.Test.YtahddhnfgonpmaaAluLawD
namespace Go.Proofs.Ytahddhnfgonpmaa
open Go.RowKit

/-- The numbers of the statement, by what it asks of them. -/
theorem ring_dist (a b c : Int) : wrap64 (wrap64 (a * b) + wrap64 (a * c)) = wrap64 (a * wrap64 (b + c)) := by
  rw [w64_mulr, Int.mul_add]
  simp only [w64]
  omega
theorem ring_andor {a b : Int} : wrap64 (bits .and .i64 a b + bits .or .i64 a b) = wrap64 (a + b) := by
  rw [(bits_ub a b).1, (bits_ub a b).2.1]
  have e := and_or_sum (ub a) (ub b)
  have e2 : ((ub a &&& ub b : Nat) : Int) + ((ub a ||| ub b : Nat) : Int) = (ub a : Int) + (ub b : Int) := by omega
  generalize ((ub a &&& ub b : Nat) : Int) = x at *
  generalize ((ub a ||| ub b : Nat) : Int) = y at *
  have h1 : (ub a : Int) = a % 18446744073709551616 := by unfold ub; omega
  have h2 : (ub b : Int) = b % 18446744073709551616 := by unfold ub; omega
  rw [h1, h2] at e2
  simp only [w64]
  omega
theorem ring_xor {a b : Int} : wrap64 (bits .or .i64 a b - bits .and .i64 a b) = bits .xor .i64 a b := by
  rw [(bits_ub a b).1, (bits_ub a b).2.1, (bits_ub a b).2.2]
  have e := xor_and_or (ub a) (ub b)
  have e2 : ((ub a ^^^ ub b : Nat) : Int) + ((ub a &&& ub b : Nat) : Int) = ((ub a ||| ub b : Nat) : Int) := by omega
  generalize ((ub a &&& ub b : Nat) : Int) = x at *
  generalize ((ub a ||| ub b : Nat) : Int) = y at *
  generalize ((ub a ^^^ ub b : Nat) : Int) = z at *
  simp only [w64]
  omega
theorem ring_not {a : Int} : wrap64 (a + (-a - 1)) = -1 := by rw [show a + (-a - 1) = -1 by omega, w64]; rfl
theorem ring_neg {a : Int} : wrap64 (a + wrap64 (-a)) = 0 := by simp only [w64]; omega
theorem ring_sub {b c : Int} (hb : InI b) : wrap64 (wrap64 (b + c) - c) = b := by unfold InI at hb; simp only [w64]; omega
theorem total (a b : Int) : (tr (decide (a < b)) = 1 ∧ tr (decide (b < a)) = 0 ∧ tr (a == b) = 0) ∨ (tr (decide (a < b)) = 0 ∧ tr (decide (b < a)) = 1 ∧ tr (a == b) = 0) ∨ (tr (decide (a < b)) = 0 ∧ tr (decide (b < a)) = 0 ∧ tr (a == b) = 1) := by
  rcases Int.lt_trichotomy a b with h | h | h
  · exact .inl ⟨by rw [decide_eq_true h]; rfl, by rw [decide_eq_false (by omega)]; rfl, by rw [beq_eq_false_iff_ne.2 (by omega)]; rfl⟩
  · exact .inr (.inr ⟨by rw [decide_eq_false (by omega)]; rfl, by rw [decide_eq_false (by omega)]; rfl, by rw [beq_iff_eq.2 h]; rfl⟩)
  · exact .inr (.inl ⟨by rw [decide_eq_false (by omega)]; rfl, by rw [decide_eq_true h]; rfl, by rw [beq_eq_false_iff_ne.2 (by omega)]; rfl⟩)
theorem bits_in (op : BinOp) (a b : Int) : InI (bits op .i64 a b) := by
  unfold bits
  rw [IntKind.wrap_i64]
  unfold InI
  omega

set_option maxRecDepth 100000 in
set_option maxHeartbeats 2000000 in
theorem AluAlgebra_walk (a0 a1 a2 : Int) (w : World) (w0 : (Lit.int .i64 a0).wf = true) (w1 : (Lit.int .i64 a1).wf = true) (w2 : (Lit.int .i64 a2).wf = true) :
    Calls Try.prog 6 #[.int .i64 a0, .int .i64 a1, .int .i64 a2] w fun e w' => e = .returned (.bool true) ∧ Below w.heap.size w w' := by
  have ha : InI a0 := i64_of_wf w0
  have hb : InI a1 := i64_of_wf w1
  have hc : InI a2 := i64_of_wf w2
  have hz : InI 0 := lit_in 0 (by decide) (by decide)
  have hst := Below.refl w.heap.size w
  have C1 := Lib.hid (fun W => eval_at 5 a1 a2 0 _ true W hb hc (ev_5 ..) rfl)
  have C2 := Lib.hid (fun W => eval_at 7 a0 a1 0 _ true W ha hb (ev_7 ..) rfl)
  have C3 := Lib.hid (fun W => eval_at 7 a0 a2 0 _ true W ha hc (ev_7 ..) rfl)
  have C4 := Lib.hid (fun W => eval_at 7 a0 (wrap64 (a1 + a2)) 0 _ true W ha (w64_in _) (ev_7 ..) rfl)
  have C5 := Lib.hid (fun W => eval_at 10 a0 a1 0 _ true W ha hb (ev_10 ..) rfl)
  have C6 := Lib.hid (fun W => eval_at 11 a0 a1 0 _ true W ha hb (ev_11 ..) rfl)
  have C7 := Lib.hid (fun W => eval_at 12 a0 a1 0 _ true W ha hb (ev_12 ..) rfl)
  have C8 := Lib.hid (fun W => eval_at 4 a0 0 0 _ true W ha hz (ev_4 ..) rfl)
  have C9 := Lib.hid (fun W => eval_at 3 a0 0 0 _ true W ha hz (ev_3 ..) rfl)
  have C10 := Lib.hid (fun W => eval_at 16 a0 a1 0 _ true W ha hb (ev_16 ..) rfl)
  have C11 := Lib.hid (fun W => eval_at 16 a1 a0 0 _ true W hb ha (ev_16 ..) rfl)
  have C12 := Lib.hid (fun W => eval_at 15 a0 a1 0 _ true W ha hb (ev_15 ..) rfl)
  have hni : InI (-a0 - 1) := by unfold InI at *; omega
  have D1 := Lib.hid (fun W => is_at 5 _ _ _ W (w64_in (a0 * a1)) (w64_in (a0 * a2)) rfl (ring_dist a0 a1 a2))
  have D2 := Lib.hid (fun W => is_at 5 _ _ _ W (bits_in .and a0 a1) (bits_in .or a0 a1) rfl ring_andor)
  have D3 := Lib.hid (fun W => is_at 6 _ _ _ W (bits_in .or a0 a1) (bits_in .and a0 a1) rfl ring_xor)
  have D4 := Lib.hid (fun W => is_at 5 _ _ _ W ha hni rfl ring_not)
  have D5 := Lib.hid (fun W => is_at 5 _ _ _ W ha (w64_in (-a0)) rfl ring_neg)
  have D6 := Lib.hid (fun W => is_at 6 _ _ _ W (w64_in (a1 + a2)) hc rfl (ring_sub hb))
  have ht := total a0 a1
  obtain ⟨u0, u1⟩ := ha
  obtain ⟨v0, v1⟩ := hb
  obtain ⟨x0, x1⟩ := hc
  clear hz hni w0 w1 w2
  generalize wrap64 (a1 + a2) = sum at *
  generalize wrap64 (a0 * a1) = ab at *
  generalize wrap64 (a0 * a2) = ac at *
  generalize wrap64 (a0 * sum) = all at *
  generalize bits .and .i64 a0 a1 = an at *
  generalize bits .or .i64 a0 a1 = or at *
  generalize bits .xor .i64 a0 a1 = xo at *
  generalize -a0 - 1 = no at *
  generalize wrap64 (-a0) = ne at *
  generalize tr (decide (a0 < a1)) = le at *
  generalize tr (decide (a1 < a0)) = mo at *
  generalize tr (a0 == a1) = eq at *
  rcases ht with ⟨rfl, rfl, rfl⟩ | ⟨rfl, rfl, rfl⟩ | ⟨rfl, rfl, rfl⟩
  all_goals
    go_enter Try.func6, Try.ntmps6
    go_wp2_with fail
    refine (awake_any _).mono ?_
    rintro e w1 ⟨rfl, hb⟩
    replace hst := hst.trans (hb.mono hst.size); clear hb
    go_wp2_with fail
    refine (C1.out _).mono ?_
    rintro e w2 ⟨rfl, hb⟩
    replace hst := hst.trans (hb.mono hst.size); clear hb
    go_wp2_with fail
    refine (C2.out _).mono ?_
    rintro e w3 ⟨rfl, hb⟩
    replace hst := hst.trans (hb.mono hst.size); clear hb
    go_wp2_with fail
    refine (C3.out _).mono ?_
    rintro e w4 ⟨rfl, hb⟩
    replace hst := hst.trans (hb.mono hst.size); clear hb
    go_wp2_with fail
    refine (C4.out _).mono ?_
    rintro e w5 ⟨rfl, hb⟩
    replace hst := hst.trans (hb.mono hst.size); clear hb
    go_wp2_with fail
    refine (C5.out _).mono ?_
    rintro e w6 ⟨rfl, hb⟩
    replace hst := hst.trans (hb.mono hst.size); clear hb
    go_wp2_with fail
    refine (C6.out _).mono ?_
    rintro e w7 ⟨rfl, hb⟩
    replace hst := hst.trans (hb.mono hst.size); clear hb
    go_wp2_with fail
    refine (C7.out _).mono ?_
    rintro e w8 ⟨rfl, hb⟩
    replace hst := hst.trans (hb.mono hst.size); clear hb
    go_wp2_with fail
    refine (C8.out _).mono ?_
    rintro e w9 ⟨rfl, hb⟩
    replace hst := hst.trans (hb.mono hst.size); clear hb
    go_wp2_with fail
    refine (C9.out _).mono ?_
    rintro e w10 ⟨rfl, hb⟩
    replace hst := hst.trans (hb.mono hst.size); clear hb
    go_wp2_with fail
    refine (C10.out _).mono ?_
    rintro e w11 ⟨rfl, hb⟩
    replace hst := hst.trans (hb.mono hst.size); clear hb
    go_wp2_with fail
    refine (C11.out _).mono ?_
    rintro e w12 ⟨rfl, hb⟩
    replace hst := hst.trans (hb.mono hst.size); clear hb
    go_wp2_with fail
    refine (C12.out _).mono ?_
    rintro e w13 ⟨rfl, hb⟩
    replace hst := hst.trans (hb.mono hst.size); clear hb
    go_wp2_with fail
    refine (D1.out _).mono ?_
    rintro e w14 ⟨rfl, hb⟩
    replace hst := hst.trans (hb.mono hst.size); clear hb
    go_wp2_with fail
    refine (D2.out _).mono ?_
    rintro e w15 ⟨rfl, hb⟩
    replace hst := hst.trans (hb.mono hst.size); clear hb
    go_wp2_with fail
    refine (D3.out _).mono ?_
    rintro e w16 ⟨rfl, hb⟩
    replace hst := hst.trans (hb.mono hst.size); clear hb
    go_wp2_with fail
    refine (D4.out _).mono ?_
    rintro e w17 ⟨rfl, hb⟩
    replace hst := hst.trans (hb.mono hst.size); clear hb
    go_wp2_with fail
    refine (D5.out _).mono ?_
    rintro e w18 ⟨rfl, hb⟩
    replace hst := hst.trans (hb.mono hst.size); clear hb
    go_wp2_with fail
    refine (D6.out _).mono ?_
    rintro e w19 ⟨rfl, hb⟩
    replace hst := hst.trans (hb.mono hst.size); clear hb
    go_wp2
    go_ret
    exact ⟨rfl, hst⟩

end Go.Proofs.Ytahddhnfgonpmaa
