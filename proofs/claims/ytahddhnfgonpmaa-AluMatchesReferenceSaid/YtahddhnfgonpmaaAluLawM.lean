/-
  The walk of the statement on the reference of layer 6.
-/
import Derived.Test.YtahddhnfgonpmaaAluRef
import Derived.Test.YtahddhnfgonpmaaAluAwake
namespace Go.Proofs.Ytahddhnfgonpmaa
open Go.RowKit

/-- The five kinds of numbers. -/
theorem kinds (op : Int) : ∃ p t, decide (1 ≤ op ∧ op ≤ 16) = p ∧ decide (op = 8 ∨ op = 9) = t ∧
    ((op < 1 ∧ (op == 8) = false ∧ (op == 9) = false ∧ p = false ∧ t = false) ∨ (1 ≤ op ∧ decide (op ≤ 16) = false ∧ (op == 8) = false ∧ (op == 9) = false ∧ p = false ∧ t = false) ∨ (op = 8 ∧ p = true ∧ t = true) ∨ (op = 9 ∧ p = true ∧ t = true) ∨
      (1 ≤ op ∧ op ≤ 16 ∧ (op == 8) = false ∧ (op == 9) = false ∧ p = true ∧ t = false)) := by
  refine ⟨_, _, rfl, rfl, ?_⟩
  by_cases h8 : op = 8
  · exact .inr (.inr (.inl ⟨h8, decide_eq_true (by omega), decide_eq_true (by omega)⟩))
  by_cases h9 : op = 9
  · exact .inr (.inr (.inr (.inl ⟨h9, decide_eq_true (by omega), decide_eq_true (by omega)⟩)))
  have e8 : (op == 8) = false := beq_eq_false_iff_ne.2 h8
  have e9 : (op == 9) = false := beq_eq_false_iff_ne.2 h9
  by_cases h1 : op < 1
  · exact .inl ⟨h1, e8, e9, decide_eq_false (by omega), decide_eq_false (by omega)⟩
  by_cases h2 : 16 < op
  · exact .inr (.inl ⟨by omega, decide_eq_false (by omega), e8, e9, decide_eq_false (by omega), decide_eq_false (by omega)⟩)
  · exact .inr (.inr (.inr (.inr ⟨by omega, by omega, e8, e9, decide_eq_true (by omega), decide_eq_false (by omega)⟩)))

set_option maxRecDepth 100000 in
set_option maxHeartbeats 2000000 in
theorem AluMatchesReference_walk (a0 a1 a2 a3 : Int) (w : World) (_ : (Lit.int .i64 a0).wf = true) (w1 : (Lit.int .i64 a1).wf = true) (w2 : (Lit.int .i64 a2).wf = true) (_ : (Lit.int .i64 a3).wf = true) :
    Calls Try.prog 3 #[.int .i64 a0, .int .i64 a1, .int .i64 a2, .int .i64 a3] w fun e w' => e = .returned (.bool true) ∧ Below w.heap.size w w' := by
  have HE := Lib.hid (fun W => eval_any a0 a1 a2 a3 W (i64_of_wf w1) (i64_of_wf w2))
  have HR := Lib.hid (fun W => reval_any a0 a1 a2 a3 W (i64_of_wf w1) (i64_of_wf w2))
  generalize ev a0 a1 a2 a3 = v at HE HR
  generalize evo a0 a2 = o at HE HR
  obtain ⟨p, t, hp, ht, hk⟩ := kinds a0
  have HP := Lib.hid (fun W => pure_any a0 p W hp)
  have HT := Lib.hid (fun W => traps_any a0 t W ht)
  have hst := Below.refl w.heap.size w
  clear hp ht w1 w2
  rcases hk with ⟨k1, k2, k3, rfl, rfl⟩ | ⟨k0, k1, k2, k3, rfl, rfl⟩ | ⟨rfl, rfl, rfl⟩ | ⟨rfl, rfl, rfl⟩ | ⟨k0, k1, k2, k3, rfl, rfl⟩
  all_goals
    go_enter Try.func3, Try.ntmps3
    go_wp2_with fail
    refine (awake_any _).mono ?_
    rintro e w1 ⟨rfl, hb⟩
    replace hst := hst.trans (hb.mono hst.size); clear hb
    go_wp2_with fail
    refine (HE.out _).mono ?_
    rintro e w2 ⟨rfl, hb⟩
    replace hst := hst.trans (hb.mono hst.size); clear hb
    go_wp2_with fail
    refine (HR.out _).mono ?_
    rintro e w3 ⟨rfl, hb⟩
    replace hst := hst.trans (hb.mono hst.size); clear hb
    go_wp2_with fail
    refine (HP.out _).mono ?_
    rintro e w4 ⟨rfl, hb⟩
    replace hst := hst.trans (hb.mono hst.size); clear hb
    go_wp2_with fail
    refine (HT.out _).mono ?_
    rintro e w5 ⟨rfl, hb⟩
    replace hst := hst.trans (hb.mono hst.size); clear hb
    go_wp2
    go_ret
    exact ⟨rfl, hst⟩

end Go.Proofs.Ytahddhnfgonpmaa
