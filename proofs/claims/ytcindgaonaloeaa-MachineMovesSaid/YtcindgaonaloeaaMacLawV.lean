/-
  The walk of the statement on moves between two locations.
-/
import Derived.Test.YtcindgaonaloeaaMacAwake
import Derived.Deep.Cut
namespace Go.Proofs.Ytcindgaonaloeaa
open Go.RowKit
set_option linter.unusedVariables false

theorem i16_of_wf {x : Int} (h : (Lit.int .i16 x).wf = true) : -32768 ≤ x ∧ x ≤ 32767 := by
  simp [Lit.wf, IntKind.min, IntKind.max, IntKind.signed, IntKind.bits] at h
  omega
def mvOf (a0 a1 imm : Int) : Mi := ⟨18, 0, 0, 0, imm, a0, a1⟩
theorem mvOf_e (a0 a1 imm regs slots : Int) : eM (mvOf a0 a1 imm) regs slots = if (mvOf a0 a1 imm).bad regs slots then 10 else if imm != 0 then 12 else 0 := by
  have h1 : mopc (mvOf a0 a1 imm).op = true := rfl
  have h2 : (mvOf a0 a1 imm).mv = true := rfl
  have h3 : (mvOf a0 a1 imm).zf = (imm != 0) := by show (false || false || false || (imm != 0)) = _; simp
  rw [eM, h1, h2, if_pos rfl, if_pos rfl, eMv, h3]
theorem mvOf_bad (a0 a1 imm regs slots : Int) : (mvOf a0 a1 imm).bad regs slots = (!locS a0 regs slots || !locS a1 regs slots || (decide (a0 % 2 = 1) && decide (a1 % 2 = 1))) := rfl

/-- The ways of a location. -/
theorem loc_ways (l r s : Int) : (l < 0 ∧ locS l r s = false) ∨ (0 ≤ l ∧ ((l % 2 = 0 ∧ ((l / 2 < r ∧ locS l r s = true) ∨ (r ≤ l / 2 ∧ locS l r s = false))) ∨ (l % 2 = 1 ∧ ((l / 2 < s ∧ locS l r s = true) ∨ (s ≤ l / 2 ∧ locS l r s = false))))) := by
  unfold locS
  by_cases h : l < 0
  · left; exact ⟨h, if_pos h⟩
  · right
    rw [if_neg h]
    refine ⟨by omega, ?_⟩
    rcases (by omega : l % 2 = 0 ∨ l % 2 = 1) with h1 | h1
    · left
      rw [if_neg (by omega)]
      refine ⟨h1, ?_⟩
      by_cases h2 : l / 2 < r
      · exact .inl ⟨h2, decide_eq_true h2⟩
      · exact .inr ⟨by omega, decide_eq_false h2⟩
    · right
      rw [if_pos h1]
      refine ⟨h1, ?_⟩
      by_cases h2 : l / 2 < s
      · exact .inl ⟨h2, decide_eq_true h2⟩
      · exact .inr ⟨by omega, decide_eq_false h2⟩

set_option maxRecDepth 100000 in
set_option maxHeartbeats 4000000 in
theorem MachineMoves_walk (a0 a1 a2 a3 : Int) (w : World) (w0 : (Lit.int .i16 a0).wf = true) (w1 : (Lit.int .i16 a1).wf = true) (w2 : (Lit.int .u8 a2).wf = true) (w3 : (Lit.int .u8 a3).wf = true) :
    Calls Try.prog 5 #[.int .i16 a0, .int .i16 a1, .int .u8 a2, .int .u8 a3] w fun e w' => e = .returned (.bool true) ∧ Below w.heap.size w w' := by
  obtain ⟨l0, u0⟩ := i16_of_wf w0
  obtain ⟨l1, u1⟩ := i16_of_wf w1
  obtain ⟨l2, u2⟩ := u8_of_wf w2
  obtain ⟨l3, u3⟩ := u8_of_wf w3
  clear w0 w1 w2 w3
  go_enter Try.func5, Try.ntmps5
  go_wp2_with fail
  refine (awake_any _).mono ?_
  rintro e W1 ⟨rfl, hb⟩
  go_upto_region 4 with fail
  have HZ := Lib.hid hb.size
  have HB0 := Lib.hid (hb.alloc hb.size (.cells #[.int .i64 18, .int .i64 0, .int .i64 0, .int .i64 0, .int .i64 0, .int .i64 a0, .int .i64 a1] 27))
  have HR0 := Lib.hid (Row.new W1 27 #[.int .i64 18, .int .i64 0, .int .i64 0, .int .i64 0, .int .i64 0, .int .i64 a0, .int .i64 a1])
  clear hb
  go_cut [10] from 20 (fun s10 wx => s10 = .bool (locS a0 a2 a3) ∧ wx = W1.alloc (.cells #[.int .i64 18, .int .i64 0, .int .i64 0, .int .i64 0, .int .i64 0, .int .i64 a0, .int .i64 a1] 27))
  case first =>
    rcases loc_ways a0 a2 a3 with ⟨h1, he⟩ | ⟨h1, ⟨h2, ⟨h3, he⟩ | ⟨h3, he⟩⟩ | ⟨h2, ⟨h3, he⟩ | ⟨h3, he⟩⟩⟩
    · have HE := Lib.hid he
      clear he
      go_wp2
      go_meet
      case rel => exact ⟨by first | (rw [HE.out]; done) | (rw [HE.out]; rfl) | (rw [HE.out, decide_eq_false (by omega)]), rfl⟩
    · have e2 : (a0 % 2 == 0) = true := by simp [h2]
      have HE := Lib.hid he
      clear he h2
      go_wp2
      go_meet
      case rel => exact ⟨by first | (rw [HE.out]; done) | (rw [HE.out]; rfl) | (rw [HE.out, decide_eq_false (by omega)]), rfl⟩
    · have e2 : (a0 % 2 == 0) = true := by simp [h2]
      have e3 : (a0 % 2 == 1) = false := beq_eq_false_iff_ne.2 (by omega)
      have HE := Lib.hid he
      clear he h2
      go_wp2
      go_meet
      case rel => exact ⟨by first | (rw [HE.out]; done) | (rw [HE.out]; rfl) | (rw [HE.out, decide_eq_false (by omega)]), rfl⟩
    · have e2 : (a0 % 2 == 0) = false := beq_eq_false_iff_ne.2 (by omega)
      have e3 : (a0 % 2 == 1) = true := by simp [h2]
      have HE := Lib.hid he
      clear he h2
      go_wp2
      go_meet
      case rel => exact ⟨by first | (rw [HE.out]; done) | (rw [HE.out]; rfl) | (rw [HE.out, decide_eq_false (by omega)]), rfl⟩
    · have e2 : (a0 % 2 == 0) = false := beq_eq_false_iff_ne.2 (by omega)
      have e3 : (a0 % 2 == 1) = true := by simp [h2]
      have HE := Lib.hid he
      clear he h2
      go_wp2
      go_meet
      case rel => exact ⟨by first | (rw [HE.out]; done) | (rw [HE.out]; rfl) | (rw [HE.out, decide_eq_false (by omega)]), rfl⟩
  case rest =>
    obtain ⟨rfl, rfl⟩ := hcut
    go_upto_region 5 with fail
    go_cut [11] from 20 (fun s11 wx => s11 = .bool (locS a1 a2 a3) ∧ wx = W1.alloc (.cells #[.int .i64 18, .int .i64 0, .int .i64 0, .int .i64 0, .int .i64 0, .int .i64 a0, .int .i64 a1] 27))
    case first =>
      rcases loc_ways a1 a2 a3 with ⟨h1, he⟩ | ⟨h1, ⟨h2, ⟨h3, he⟩ | ⟨h3, he⟩⟩ | ⟨h2, ⟨h3, he⟩ | ⟨h3, he⟩⟩⟩
      · have HE := Lib.hid he
        clear he
        go_wp2
        go_meet
        case rel => exact ⟨by first | (rw [HE.out]; done) | (rw [HE.out]; rfl) | (rw [HE.out, decide_eq_false (by omega)]), rfl⟩
      · have e2 : (a1 % 2 == 0) = true := by simp [h2]
        have HE := Lib.hid he
        clear he h2
        go_wp2
        go_meet
        case rel => exact ⟨by first | (rw [HE.out]; done) | (rw [HE.out]; rfl) | (rw [HE.out, decide_eq_false (by omega)]), rfl⟩
      · have e2 : (a1 % 2 == 0) = true := by simp [h2]
        have e3 : (a1 % 2 == 1) = false := beq_eq_false_iff_ne.2 (by omega)
        have HE := Lib.hid he
        clear he h2
        go_wp2
        go_meet
        case rel => exact ⟨by first | (rw [HE.out]; done) | (rw [HE.out]; rfl) | (rw [HE.out, decide_eq_false (by omega)]), rfl⟩
      · have e2 : (a1 % 2 == 0) = false := beq_eq_false_iff_ne.2 (by omega)
        have e3 : (a1 % 2 == 1) = true := by simp [h2]
        have HE := Lib.hid he
        clear he h2
        go_wp2
        go_meet
        case rel => exact ⟨by first | (rw [HE.out]; done) | (rw [HE.out]; rfl) | (rw [HE.out, decide_eq_false (by omega)]), rfl⟩
      · have e2 : (a1 % 2 == 0) = false := beq_eq_false_iff_ne.2 (by omega)
        have e3 : (a1 % 2 == 1) = true := by simp [h2]
        have HE := Lib.hid he
        clear he h2
        go_wp2
        go_meet
        case rel => exact ⟨by first | (rw [HE.out]; done) | (rw [HE.out]; rfl) | (rw [HE.out, decide_eq_false (by omega)]), rfl⟩
    case rest =>
      obtain ⟨rfl, rfl⟩ := hcut
      obtain ⟨d, hd⟩ : ∃ z, z = locS a0 a2 a3 := ⟨_, rfl⟩
      obtain ⟨s, hs⟩ : ∃ z, z = locS a1 a2 a3 := ⟨_, rfl⟩
      rw [← hd, ← hs]
      have HD := Lib.hid hd
      have HS := Lib.hid hs
      clear hd hs
      generalize W1.alloc (.cells #[.int .i64 18, .int .i64 0, .int .i64 0, .int .i64 0, .int .i64 0, .int .i64 a0, .int .i64 a1] 27) = W2 at *
      have c := HR0.out.cell
      have c0 := c 0; have c1 := c 1; have c2 := c 2; have c3 := c 3; have c4 := c 4; have c5 := c 5; have c6 := c 6
      simp only [List.getElem?_toArray, List.getElem?_cons_zero, List.getElem?_cons_succ] at c0 c1 c2 c3 c4 c5 c6
      clear c
      have hok : ∀ m, (mvOf a0 a1 m).Ok := fun m => ⟨⟨by show _ ≤ a0; omega, by show a0 ≤ _; omega⟩, ⟨by show _ ≤ a1; omega, by show a1 ≤ _; omega⟩⟩
      have HOK := Lib.hid hok
      clear hok
      have HE0 : Hid (eM (mvOf a0 a1 0) a2 a3 = if (!d || !s || (decide (a0 % 2 = 1) && decide (a1 % 2 = 1))) then 10 else 0) := by
        rw [Hid, mvOf_e, mvOf_bad, ← HD.out, ← HS.out]; rfl
      have HE1 : Hid (eM (mvOf a0 a1 1) a2 a3 = if (!d || !s || (decide (a0 % 2 = 1) && decide (a1 % 2 = 1))) then 10 else 12) := by
        rw [Hid, mvOf_e, mvOf_bad, ← HD.out, ← HS.out]; rfl
      have HK := Lib.hid (fun m W => minstr_any (mvOf a0 a1 m) a2 a3 W (HOK.out m))
      go_wp2_with fail
      refine (HK.out 0 _).mono ?_
      rintro e W3 ⟨rfl, hb⟩
      have HB1 := Lib.hid (HB0.out.trans (hb.mono HB0.out.size))
      have HR1 := Lib.hid (HR0.out.below hb HR0.out.lt)
      clear hb HB0 HR0 c0 c1 c2 c3 c4 c5 c6
      cases d
      · have HE2 : Hid (eM (mvOf a0 a1 0) a2 a3 = 10) := HE0.out
        generalize eM (mvOf a0 a1 0) a2 a3 = v at *
        obtain rfl := HE2.out
        go_wp2
        go_ret
        exact ⟨rfl, HB1.out⟩
      · cases s
        · have HE2 : Hid (eM (mvOf a0 a1 0) a2 a3 = 10) := HE0.out
          generalize eM (mvOf a0 a1 0) a2 a3 = v at *
          obtain rfl := HE2.out
          go_wp2
          go_ret
          exact ⟨rfl, HB1.out⟩
        · have n0 := locS_nn HD.out.symm
          have n1 := locS_nn HS.out.symm
          by_cases hodd : a0 % 2 = 1 ∧ a1 % 2 = 1
          · have HE2 : Hid (eM (mvOf a0 a1 0) a2 a3 = 10) := by rw [Hid, HE0.out, decide_eq_true hodd.1, decide_eq_true hodd.2]; rfl
            have e0 : (a0 % 2 == 0) = false := beq_eq_false_iff_ne.2 (by omega)
            have e1 : (a1 % 2 == 0) = false := beq_eq_false_iff_ne.2 (by omega)
            clear hodd
            generalize eM (mvOf a0 a1 0) a2 a3 = v at *
            obtain rfl := HE2.out
            go_wp2
            go_ret
            exact ⟨rfl, HB1.out⟩
          · have hx : (decide (a0 % 2 = 1) && decide (a1 % 2 = 1)) = false := by
              by_cases h : a0 % 2 = 1
              · rw [decide_eq_false (fun h1 => hodd ⟨h, h1⟩), Bool.and_false]
              · rw [decide_eq_false h, Bool.false_and]
            have HE2 : Hid (eM (mvOf a0 a1 0) a2 a3 = 0) := by rw [Hid, HE0.out, hx]; rfl
            have HE3 : Hid (eM (mvOf a0 a1 1) a2 a3 = 12) := by rw [Hid, HE1.out, hx]; rfl
            have HR2 := Lib.hid (HR1.out.put 4 (.int .i64 1))
            have HB2 := Lib.hid (HB1.out.setCell (p := ⟨W1.heap.size, 4, none⟩) HZ.out (.int .i64 1))
            have hr := HR1.out
            have c0 := hr.cell 0; have c1 := hr.cell 1; have c2 := hr.cell 2; have c3 := hr.cell 3; have c4 := hr.cell 4; have c5 := hr.cell 5; have c6 := hr.cell 6
            have f4 := hr.frozen 4
            simp only [List.getElem?_toArray, List.getElem?_cons_zero, List.getElem?_cons_succ] at c0 c1 c2 c3 c4 c5 c6
            clear hr hx HE0 HE1
            have hv := HE2.out
            generalize eM (mvOf a0 a1 0) a2 a3 = v at *
            subst hv
            rcases (by omega : a0 % 2 = 0 ∨ (a0 % 2 = 1 ∧ a1 % 2 = 0)) with h | ⟨h, h'⟩
            · have e0 : (a0 % 2 == 0) = true := by simp [h]
              clear h hodd
              go_wp2_with fail
              refine (HK.out 1 _).mono ?_
              rintro e W4 ⟨rfl, hb⟩
              have HB3 := Lib.hid (HB2.out.trans (hb.mono HB2.out.size))
              have hv := HE3.out
              generalize eM (mvOf a0 a1 1) a2 a3 = v at *
              subst hv
              go_wp2
              go_ret
              exact ⟨rfl, HB3.out⟩
            · have e0 : (a0 % 2 == 0) = false := beq_eq_false_iff_ne.2 (by omega)
              have e1 : (a1 % 2 == 0) = true := by simp [h']
              clear h h' hodd
              go_wp2_with fail
              refine (HK.out 1 _).mono ?_
              rintro e W4 ⟨rfl, hb⟩
              have HB3 := Lib.hid (HB2.out.trans (hb.mono HB2.out.size))
              have hv := HE3.out
              generalize eM (mvOf a0 a1 1) a2 a3 = v at *
              subst hv
              go_wp2
              go_ret
              exact ⟨rfl, HB3.out⟩

end Go.Proofs.Ytcindgaonaloeaa
