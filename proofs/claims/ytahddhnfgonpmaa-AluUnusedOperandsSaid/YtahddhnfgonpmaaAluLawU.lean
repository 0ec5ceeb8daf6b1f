/-
  The walk of the statement on unused operands of layer 6.
-/
import Derived.Test.YtahddhnfgonpmaaAluAwake
namespace Go.Proofs.Ytahddhnfgonpmaa
open Go.RowKit

theorem usesA_any (op : Int) (t : Bool) (w : World) (ht : decide (2 ≤ op ∧ op ≤ 17) = t) :
    Calls Try.prog 13 #[.int .i64 op] w fun e w' => e = .returned (.bool t) ∧ w = w' := by
  subst ht
  by_cases h1 : 2 ≤ op
  · by_cases h2 : op ≤ 17
    · rw [decide_eq_true (And.intro h1 h2)]
      go_enter Try.func13, Try.ntmps13
      go_wp2
      go_ret
      exact ⟨rfl, rfl⟩
    · rw [decide_eq_false (fun h => h2 h.2)]
      have h3 : decide (op ≤ 17) = false := decide_eq_false h2
      clear h2
      go_enter Try.func13, Try.ntmps13
      go_wp2
      go_ret
      exact ⟨rfl, rfl⟩
  · rw [decide_eq_false (fun h => h1 h.1)]
    have h3 : op < 2 := by omega
    clear h1
    go_enter Try.func13, Try.ntmps13
    go_wp2
    go_ret
    exact ⟨rfl, rfl⟩

theorem usesB_any (op : Int) (t : Bool) (w : World) (ht : decide (5 ≤ op ∧ op ≤ 16) = t) :
    Calls Try.prog 14 #[.int .i64 op] w fun e w' => e = .returned (.bool t) ∧ w = w' := by
  subst ht
  by_cases h1 : 5 ≤ op
  · by_cases h2 : op ≤ 16
    · rw [decide_eq_true (And.intro h1 h2)]
      go_enter Try.func14, Try.ntmps14
      go_wp2
      go_ret
      exact ⟨rfl, rfl⟩
    · rw [decide_eq_false (fun h => h2 h.2)]
      have h3 : decide (op ≤ 16) = false := decide_eq_false h2
      clear h2
      go_enter Try.func14, Try.ntmps14
      go_wp2
      go_ret
      exact ⟨rfl, rfl⟩
  · rw [decide_eq_false (fun h => h1 h.1)]
    have h3 : op < 5 := by omega
    clear h1
    go_enter Try.func14, Try.ntmps14
    go_wp2
    go_ret
    exact ⟨rfl, rfl⟩

theorem usesI_any (op : Int) (t : Bool) (w : World) (ht : (op == 1) = t) :
    Calls Try.prog 15 #[.int .i64 op] w fun e w' => e = .returned (.bool t) ∧ w = w' := by
  have HT := Lib.hid ht
  clear ht
  go_enter Try.func15, Try.ntmps15
  go_wp2
  go_ret
  exact ⟨by rw [← HT.out]; rfl, rfl⟩

/-- What the result hangs on. -/
theorem ev_none {op : Int} (h : op < 1 ∨ 16 < op) (a b i a' b' i' : Int) : ev op a' b' i' = ev op a b i ∧ evo op b' = evo op b := by
  have h' : ¬ (1 ≤ op ∧ op ≤ 16) := by omega
  rw [ev_out h', ev_out h', evo_out h', evo_out h']
  exact ⟨rfl, rfl⟩
theorem evo_low {op : Int} (h : 1 ≤ op ∧ op ≤ 4) (b : Int) : evo op b = true := by
  unfold evo
  rw [decide_eq_true (by omega), show decide (op = 8 ∨ op = 9) = false from decide_eq_false (by omega)]
  rfl
theorem ev_a {op : Int} (h : 2 ≤ op ∧ op ≤ 4) (a b i b' i' : Int) : ev op a b' i' = ev op a b i ∧ evo op b' = evo op b := by
  rw [evo_low (by omega), evo_low (by omega)]
  refine ⟨?_, rfl⟩
  have : op = 2 ∨ op = 3 ∨ op = 4 := by omega
  rcases this with rfl | rfl | rfl <;> rfl
theorem ev_i (a b i a' b' : Int) : ev 1 a' b' i = ev 1 a b i ∧ evo 1 b' = evo 1 b := ⟨rfl, rfl⟩
theorem ev_ab {op : Int} (h : 5 ≤ op ∧ op ≤ 16) (a b i i' : Int) : ev op a b i' = ev op a b i ∧ evo op b = evo op b := by
  refine ⟨?_, rfl⟩
  unfold ev
  rw [if_neg (show ¬ op = 1 by omega), if_neg (show ¬ op = 1 by omega)]

/-- The five kinds of numbers. -/
theorem uses (op a b i c : Int) : ∃ x y z, decide (2 ≤ op ∧ op ≤ 17) = x ∧ decide (5 ≤ op ∧ op ≤ 16) = y ∧ (op == 1) = z ∧
    ((x = false ∧ y = false ∧ z = false ∧ ev op c c c = ev op a b i ∧ evo op c = evo op b) ∨ (x = false ∧ y = false ∧ z = true ∧ ev op c c i = ev op a b i ∧ evo op c = evo op b) ∨
      (x = true ∧ y = false ∧ z = false ∧ ev op a c c = ev op a b i ∧ evo op c = evo op b) ∨ (x = true ∧ y = true ∧ z = false ∧ ev op a b c = ev op a b i ∧ evo op b = evo op b)) := by
  refine ⟨_, _, _, rfl, rfl, rfl, ?_⟩
  by_cases h1 : op = 1
  · subst h1
    exact .inr (.inl ⟨rfl, rfl, rfl, ev_i ..⟩)
  have e1 : (op == 1) = false := beq_eq_false_iff_ne.2 h1
  by_cases h0 : op < 1 ∨ 17 < op
  · exact .inl ⟨decide_eq_false (by omega), decide_eq_false (by omega), e1, ev_none (by omega) ..⟩
  by_cases h4 : op ≤ 4
  · exact .inr (.inr (.inl ⟨decide_eq_true (by omega), decide_eq_false (by omega), e1, ev_a (by omega) ..⟩))
  by_cases h17 : op = 17
  · exact .inr (.inr (.inl ⟨decide_eq_true (by omega), decide_eq_false (by omega), e1, ev_none (by omega) ..⟩))
  · exact .inr (.inr (.inr ⟨decide_eq_true (by omega), decide_eq_true (by omega), e1, ev_ab (by omega) ..⟩))

set_option maxRecDepth 100000 in
set_option maxHeartbeats 2000000 in
theorem AluUnusedOperands_walk (a0 a1 a2 a3 a4 : Int) (w : World) (_ : (Lit.int .i64 a0).wf = true) (w1 : (Lit.int .i64 a1).wf = true) (w2 : (Lit.int .i64 a2).wf = true) (_ : (Lit.int .i64 a3).wf = true) (w4 : (Lit.int .i64 a4).wf = true) :
    Calls Try.prog 4 #[.int .i64 a0, .int .i64 a1, .int .i64 a2, .int .i64 a3, .int .i64 a4] w fun e w' => e = .returned (.bool true) ∧ Below w.heap.size w w' := by
  have HE := Lib.hid (fun W => eval_any a0 a1 a2 a3 W (i64_of_wf w1) (i64_of_wf w2))
  have H1 := Lib.hid (i64_of_wf w1)
  have H2 := Lib.hid (i64_of_wf w2)
  have H4 := Lib.hid (i64_of_wf w4)
  obtain ⟨x, y, z, hx, hy, hz, hk⟩ := uses a0 a1 a2 a3 a4
  have HX := Lib.hid (fun W => usesA_any a0 x W hx)
  have HY := Lib.hid (fun W => usesB_any a0 y W hy)
  have HZ := Lib.hid (fun W => usesI_any a0 z W hz)
  have hst := Below.refl w.heap.size w
  clear hx hy hz w1 w2 w4
  obtain ⟨v, hv⟩ : ∃ v, v = ev a0 a1 a2 a3 := ⟨_, rfl⟩
  obtain ⟨o, ho⟩ : ∃ o, o = evo a0 a2 := ⟨_, rfl⟩
  rw [← hv, ← ho] at HE hk
  clear hv
  rcases hk with ⟨rfl, rfl, rfl, h5, h6⟩ | ⟨rfl, rfl, rfl, h5, h6⟩ | ⟨rfl, rfl, rfl, h5, h6⟩ | ⟨rfl, rfl, rfl, h5, h6⟩
  case' inl => have HF : Hid (∀ W, Calls _ _ _ W _) := fun W => eval_at a0 a4 a4 a4 v o W H4.out H4.out h5 h6
  case' inr.inl => have HF : Hid (∀ W, Calls _ _ _ W _) := fun W => eval_at a0 a4 a4 a3 v o W H4.out H4.out h5 h6
  case' inr.inr.inl => have HF : Hid (∀ W, Calls _ _ _ W _) := fun W => eval_at a0 a1 a4 a4 v o W H1.out H4.out h5 h6
  case' inr.inr.inr => have HF : Hid (∀ W, Calls _ _ _ W _) := fun W => eval_at a0 a1 a2 a4 v o W H1.out H2.out h5 ho.symm
  all_goals
    clear h5 h6 ho
    go_enter Try.func4, Try.ntmps4
    go_wp2_with fail
    refine (awake_any _).mono ?_
    rintro e w1 ⟨rfl, hb⟩
    replace hst := hst.trans (hb.mono hst.size); clear hb
    go_wp2_with fail
    refine (HE.out _).mono ?_
    rintro e w2 ⟨rfl, hb⟩
    replace hst := hst.trans (hb.mono hst.size); clear hb
    go_wp2_with fail
    refine (HX.out _).mono ?_
    rintro e w' ⟨rfl, rfl⟩
    go_wp2_with fail
    refine (HY.out _).mono ?_
    rintro e w' ⟨rfl, rfl⟩
    go_wp2_with fail
    refine (HZ.out _).mono ?_
    rintro e w' ⟨rfl, rfl⟩
    go_wp2_with fail
    refine (HF.out _).mono ?_
    rintro e w3 ⟨rfl, hb⟩
    replace hst := hst.trans (hb.mono hst.size); clear hb
    go_wp2
    go_ret
    exact ⟨rfl, hst⟩

end Go.Proofs.Ytahddhnfgonpmaa
