/-
  The program's Eval, Pure and Traps.
-/
import Derived.Test.YtcimjghejclknaaAluFind
namespace Go.Proofs.Ytcimjghejclknaa
open Go.RowKit

theorem got {x y : Option Value} {n m : Nat} {d c : Bool} (h1 : x = some (.func (.func n) #[] #[])) (h2 : y = some (.bool d)) (e1 : x = some (.func (.func m) #[] #[])) (e2 : y = some (.bool c)) : n = m ∧ d = c := by
  rw [h1] at e1
  rw [h2] at e2
  injection e1 with e1
  injection e1 with e1
  injection e1 with e1
  injection e2 with e2
  injection e2 with e2
  exact ⟨e1, e2⟩

set_option maxRecDepth 100000 in
theorem fun_any (k n : Nat) (d : Bool) (a b : Int) (w : World) (h5 : 5 ≤ k) (h17 : k ≤ 16) (hF : tbl[k * 2]? = some (.func (.func n) #[] #[])) (hD : tbl[k * 2 + 1]? = some (.bool d)) (ha : InI a) (hb : InI b) (h0 : ¬ (d = true ∧ b = 0)) :
    Calls Try.prog n #[.int .i64 a, .int .i64 b] w fun e w' => e = .returned (.int .i64 (bin k a b)) ∧ w = w' := by
  have : k = 5 ∨ k = 6 ∨ k = 7 ∨ k = 8 ∨ k = 9 ∨ k = 10 ∨ k = 11 ∨ k = 12 ∨ k = 13 ∨ k = 14 ∨ k = 15 ∨ k = 16 := by omega
  clear h5 h17
  rcases this with rfl | rfl | rfl | rfl | rfl | rfl | rfl | rfl | rfl | rfl | rfl | rfl
  · obtain ⟨rfl, rfl⟩ := got hF hD rfl rfl
    exact c1_any a b w ha hb
  · obtain ⟨rfl, rfl⟩ := got hF hD rfl rfl
    exact c2_any a b w ha hb
  · obtain ⟨rfl, rfl⟩ := got hF hD rfl rfl
    exact c3_any a b w ha hb
  · obtain ⟨rfl, rfl⟩ := got hF hD rfl rfl
    exact c4_any a b w ha hb (by simpa using h0)
  · obtain ⟨rfl, rfl⟩ := got hF hD rfl rfl
    exact c5_any a b w ha hb (by simpa using h0)
  · obtain ⟨rfl, rfl⟩ := got hF hD rfl rfl
    exact c6_any a b w
  · obtain ⟨rfl, rfl⟩ := got hF hD rfl rfl
    exact c7_any a b w
  · obtain ⟨rfl, rfl⟩ := got hF hD rfl rfl
    exact c8_any a b w
  · obtain ⟨rfl, rfl⟩ := got hF hD rfl rfl
    exact c9_any a b w ha
  · obtain ⟨rfl, rfl⟩ := got hF hD rfl rfl
    exact c10_any a b w ha
  · obtain ⟨rfl, rfl⟩ := got hF hD rfl rfl
    exact c11_any a b w
  · obtain ⟨rfl, rfl⟩ := got hF hD rfl rfl
    exact c12_any a b w
theorem call_any (k n : Nat) (d : Bool) (h5 : 5 ≤ k) (h17 : k ≤ 16) (hF : tbl[k * 2]? = some (.func (.func n) #[] #[])) (hD : tbl[k * 2 + 1]? = some (.bool d)) : ∀ args W, (callFunc n args).run Try.prog W = .ok (.enter n args) W := by
  have : k = 5 ∨ k = 6 ∨ k = 7 ∨ k = 8 ∨ k = 9 ∨ k = 10 ∨ k = 11 ∨ k = 12 ∨ k = 13 ∨ k = 14 ∨ k = 15 ∨ k = 16 := by omega
  clear h5 h17
  rcases this with rfl | rfl | rfl | rfl | rfl | rfl | rfl | rfl | rfl | rfl | rfl | rfl <;> obtain ⟨rfl, rfl⟩ := got hF hD rfl rfl <;> exact fun _ _ => by kernel_rfl
theorem dv_any (k n : Nat) (d : Bool) (h5 : 5 ≤ k) (h17 : k ≤ 16) (hF : tbl[k * 2]? = some (.func (.func n) #[] #[])) (hD : tbl[k * 2 + 1]? = some (.bool d)) : d = decide ((k : Int) = 8 ∨ (k : Int) = 9) := by
  have : k = 5 ∨ k = 6 ∨ k = 7 ∨ k = 8 ∨ k = 9 ∨ k = 10 ∨ k = 11 ∨ k = 12 ∨ k = 13 ∨ k = 14 ∨ k = 15 ∨ k = 16 := by omega
  clear h5 h17
  rcases this with rfl | rfl | rfl | rfl | rfl | rfl | rfl | rfl | rfl | rfl | rfl | rfl <;> exact (got hF hD rfl rfl).2

/-- The search's answer, in the walks' words. -/
theorem found_cases {op : Int} {v : Value} (h : found op v) (h1 : ¬ op = 1) (h2 : ¬ op = 2) (h3 : ¬ op = 3) (h4 : ¬ op = 4) :
    (v = .tuple #[.agg #[.nilFunc, .bool false], .bool false] ∧ (∀ b, evo op b = false) ∧ ∀ a b i, ev op a b i = 0) ∨
    ∃ (n : Nat) (d : Bool), v = .tuple #[.agg #[.func (.func n) #[] #[], .bool d], .bool true] ∧ d = decide (op = 8 ∨ op = 9) ∧ (∀ b, (d = true ∧ b = 0) → evo op b = false ∧ ∀ a i, ev op a b i = 0) ∧
      ∀ (a b : Int), InI a → InI b → ¬ (d = true ∧ b = 0) → evo op b = true ∧ (∀ args W, (callFunc n args).run Try.prog W = .ok (.enter n args) W) ∧ (∀ i w, Calls Try.prog n #[.int .i64 a, .int .i64 b] w fun e w' => e = .returned (.int .i64 (ev op a b i)) ∧ w = w') := by
  rcases h with ⟨h5, rfl⟩ | ⟨n, d, hF, hD, rfl⟩
  · exact .inl ⟨rfl, fun b => evo_out (by omega) b, fun a b i => ev_out (by omega) a b i⟩
  · right
    have hr : 5 ≤ op.toNat ∧ op.toNat ≤ 16 := by
      constructor
      · apply Decidable.byContradiction
        intro hlt
        have := (tbl_low op.toNat (by omega)).1
        rw [this] at hF
        cases hF
      · apply Decidable.byContradiction
        intro hlt
        rw [Array.getElem?_eq_none (by show 34 ≤ _; omega)] at hF
        cases hF
    obtain ⟨k, rfl⟩ := Int.eq_ofNat_of_zero_le (show 0 ≤ op by omega)
    have e : ((k : Int)).toNat = k := rfl
    rw [e] at hF hD hr
    have hd := dv_any k n d hr.1 hr.2 hF hD
    have hev : ∀ b, evo (k : Int) b = !(d && decide (b = 0)) := fun b => by
      unfold evo
      rw [← hd, decide_eq_true (by omega)]
      rfl
    refine ⟨n, d, rfl, hd, fun b hb => ?_, fun a b ha hb h0 => ?_⟩
    · obtain ⟨rfl, rfl⟩ := hb
      have h6 := hev 0
      refine ⟨h6, fun a i => ?_⟩
      unfold ev
      rw [h6, if_neg h1, if_neg h2, if_neg h3, if_neg h4]
      rfl
    · have h6 : evo (k : Int) b = true := by
        rw [hev]
        cases d
        · rfl
        · rw [decide_eq_false (fun hb => h0 ⟨rfl, hb⟩)]
          rfl
      refine ⟨h6, call_any k n d hr.1 hr.2 hF hD, fun i w => ?_⟩
      unfold ev
      rw [h6, if_neg h1, if_neg h2, if_neg h3, if_neg h4, if_pos rfl]
      exact fun_any k n d a b w hr.1 hr.2 hF hD ha hb h0

set_option maxRecDepth 100000 in
set_option maxHeartbeats 1000000 in
theorem eval_any (op a b i : Int) (w : World) (ha : InI a) (hb : InI b) :
    Calls Try.prog 52 #[.int .i64 op, .int .i64 a, .int .i64 b, .int .i64 i] w fun e w' => e = .returned (.tuple #[.int .i64 (ev op a b i), .bool (evo op b)]) ∧ Below w.heap.size w w' := by
  by_cases h1 : op = 1
  · subst h1
    rw [ev_1, show evo 1 b = true from rfl]
    go_enter Try.func52, Try.ntmps52
    go_wp2
    go_ret2
    exact ⟨rfl, Below.refl _ _⟩
  by_cases h2 : op = 2
  · subst h2
    rw [ev_2, show evo 2 b = true from rfl]
    go_enter Try.func52, Try.ntmps52
    go_wp2
    go_ret2
    exact ⟨rfl, Below.refl _ _⟩
  by_cases h3 : op = 3
  · subst h3
    rw [ev_3, show evo 3 b = true from rfl]
    obtain ⟨a0, a1⟩ := ha
    go_enter Try.func52, Try.ntmps52
    go_wp2
    go_ret2
    exact ⟨rfl, Below.refl _ _⟩
  by_cases h4 : op = 4
  · subst h4
    rw [ev_4, show evo 4 b = true from rfl]
    have hn := bits_not ha
    have hs : IntKind.i64.signed = true := rfl
    obtain ⟨v, hv⟩ : ∃ v, v = -a - 1 := ⟨_, rfl⟩
    rw [← hv] at hn ⊢
    clear hv
    obtain ⟨a0, a1⟩ := ha
    go_enter Try.func52, Try.ntmps52
    go_wp2
    go_ret2
    first | exact ⟨by rw [← hn]; rfl, Below.refl _ _⟩ | trace_state
  have e1 : (op == 1) = false := beq_eq_false_iff_ne.2 h1
  have e2 : (op == 2) = false := beq_eq_false_iff_ne.2 h2
  have e3 : (op == 3) = false := beq_eq_false_iff_ne.2 h3
  have e4 : (op == 4) = false := beq_eq_false_iff_ne.2 h4
  have H1 := Lib.hid h1; have H2 := Lib.hid h2; have H3 := Lib.hid h3; have H4 := Lib.hid h4
  clear h1 h2 h3 h4
  have HA := Lib.hid ha; have HB := Lib.hid hb
  clear ha hb
  go_enter Try.func52, Try.ntmps52
  go_wp2_with fail
  refine (find_any op w).mono ?_
  rintro e w1 ⟨⟨v, rfl, hv⟩, hbl⟩
  rcases found_cases hv H1.out H2.out H3.out H4.out with ⟨rfl, hv0, hv1⟩ | ⟨n, d, rfl, hd, hz, hf⟩
  · have HV := Lib.hid (hv0 b)
    have HW := Lib.hid (hv1 a b i)
    have HL := Lib.hid hbl
    clear hv hv0 hv1 hbl
    go_wp2
    go_ret2
    exact ⟨by rw [HV.out, HW.out]; rfl, HL.out.alloc HL.out.size _⟩
  · have HL := Lib.hid hbl
    clear hv hbl
    by_cases h0 : d = true ∧ b = 0
    · obtain ⟨r1, r2⟩ := hz b h0
      obtain ⟨rfl, rfl⟩ := h0
      have HV := Lib.hid r1
      have HW := Lib.hid (r2 a i)
      clear r1 r2 hz hf hd
      go_wp2
      go_ret2
      exact ⟨by rw [HV.out, HW.out]; rfl, HL.out.alloc HL.out.size _⟩
    · obtain ⟨r1, hK, r2⟩ := hf a b HA.out HB.out h0
      have hc := r2 i
      have HV := Lib.hid r1
      clear r1 r2 hz hf hd
      by_cases hdd : d = true
      · subst hdd
        have hb0 : (b == 0) = false := beq_eq_false_iff_ne.2 fun e => h0 ⟨rfl, e⟩
        clear h0
        go_wp2_with fail
        refine (hc _).mono ?_
        rintro e w2 ⟨rfl, rfl⟩
        go_wp2
        go_ret2
        exact ⟨by rw [HV.out]; rfl, HL.out.alloc HL.out.size _⟩
      · have hd0 : d = false := by cases d <;> simp_all
        subst hd0
        clear h0 hdd
        go_wp2_with fail
        refine (hc _).mono ?_
        rintro e w2 ⟨rfl, rfl⟩
        go_wp2
        go_ret2
        exact ⟨by rw [HV.out]; rfl, HL.out.alloc HL.out.size _⟩

/-- Eval in other words of the same result. -/
theorem eval_at (op a b i v : Int) (o : Bool) (w : World) (ha : InI a) (hb : InI b) (h1 : ev op a b i = v) (h2 : evo op b = o) :
    Calls Try.prog 52 #[.int .i64 op, .int .i64 a, .int .i64 b, .int .i64 i] w fun e w' => e = .returned (.tuple #[.int .i64 v, .bool o]) ∧ Below w.heap.size w w' := by
  subst h1; subst h2
  exact eval_any op a b i w ha hb

/-- Whether the search finds, and whether it divides. -/
theorem found_pure {op : Int} {v : Value} (h : found op v) : ∃ (f : Value) (d : Bool), v = .tuple #[.agg #[f, .bool d], .bool (decide (5 ≤ op ∧ op ≤ 16))] ∧ d = decide (op = 8 ∨ op = 9) ∧ (f = .nilFunc ∨ ∃ n, f = .func (.func n) #[] #[]) := by
  rcases h with ⟨h5, rfl⟩ | ⟨n, d, hF, hD, rfl⟩
  · exact ⟨_, _, by rw [decide_eq_false h5], (decide_eq_false (by omega)).symm, .inl rfl⟩
  · have hr : 5 ≤ op.toNat ∧ op.toNat ≤ 16 := by
      constructor
      · apply Decidable.byContradiction
        intro hlt
        have := (tbl_low op.toNat (by omega)).1
        rw [this] at hF
        cases hF
      · apply Decidable.byContradiction
        intro hlt
        rw [Array.getElem?_eq_none (by show 34 ≤ _; omega)] at hF
        cases hF
    obtain ⟨k, rfl⟩ := Int.eq_ofNat_of_zero_le (show 0 ≤ op by omega)
    have e : ((k : Int)).toNat = k := rfl
    rw [e] at hF hD hr
    exact ⟨_, _, by rw [decide_eq_true (by omega)], dv_any k n d hr.1 hr.2 hF hD, .inr ⟨n, rfl⟩⟩

end Go.Proofs.Ytcimjghejclknaa
