/-
  The reference's Instr of layer 8.
-/
import Derived.Test.YtmmdhhjpbolkhaaGreatPk7
import Derived.Test.YtmmdhhjpbolkhaaGreatSrcRef
namespace Go.Proofs.YtmmdhhjpbolkhaaGreat
open Go.RowKit
set_option linter.unusedVariables false

theorem mopc_ways (op : Int) : (mopc op = false ∧ (op < 1 ∨ 18 < op ∨ op = 2)) ∨ (mopc op = true ∧ 1 ≤ op ∧ op ≤ 18 ∧ (op == 2) = false) := by
  unfold mopc uO
  by_cases h : 1 ≤ op ∧ op ≤ 18
  · rw [decide_eq_true h]
    by_cases h2 : op = 2
    · left; rw [h2]; exact ⟨rfl, by omega⟩
    · right
      have : (op == 2) = false := beq_eq_false_iff_ne.2 h2
      rw [this]
      exact ⟨rfl, h.1, h.2, rfl⟩
  · left
    rw [decide_eq_false h]
    exact ⟨rfl, by omega⟩

set_option maxRecDepth 100000 in
set_option maxHeartbeats 2000000 in
theorem rmv_any (x : Mi) (regs slots : Int) (w : World) (hx : x.Ok) (l1 : 1 ≤ x.op) (l2 : x.op ≤ 18) (l3 : (x.op == 2) = false) (l4 : (x.op == 18) = true) (he : eM x regs slots = eMv x regs slots) :
    Calls Tryz.prog 29 #[.agg #[.int .i64 x.op, .int .i64 x.d, .int .i64 x.a, .int .i64 x.b, .int .i64 x.imm, .int .i64 x.dst, .int .i64 x.src], .int .i64 regs, .int .i64 slots] w fun e w' => e = .returned (.int .i64 (eM x regs slots)) ∧ Below w.heap.size w w' := by
  have HB := Lib.hid ((Below.refl w.heap.size w).alloc (Nat.le_refl _) (.cells #[.int .i64 x.op, .int .i64 x.d, .int .i64 x.a, .int .i64 x.b, .int .i64 x.imm, .int .i64 x.dst, .int .i64 x.src] 71))
  have HE : Hid (eM x regs slots = if x.bad regs slots then 10 else if x.zf then 12 else 0) := he
  have HX := Lib.hid hx
  clear hx he
  obtain ⟨b1, h1⟩ : ∃ z, locS x.dst regs slots = z := ⟨_, rfl⟩
  obtain ⟨b2, h2⟩ : ∃ z, locS x.src regs slots = z := ⟨_, rfl⟩
  obtain ⟨s1, h3⟩ : ∃ z, decide (x.dst % 2 = 1) = z := ⟨_, rfl⟩
  obtain ⟨s2, h4⟩ : ∃ z, decide (x.src % 2 = 1) = z := ⟨_, rfl⟩
  have HD : Hid (x.bad regs slots = (!b1 || !b2 || (s1 && s2))) := by rw [Hid, Mi.bad, h1, h2, h3, h4]
  have H1 := Lib.hid h1; have H2 := Lib.hid h2; have H3 := Lib.hid h3; have H4 := Lib.hid h4
  clear h1 h2 h3 h4
  cases b1
  · have HE2 : Hid (eM x regs slots = 10) := by rw [Hid, HE.out, HD.out]; rfl
    go_enter Tryz.func29, Tryz.ntmps29
    go_wp2_with fail
    refine (rlocin_at _ regs slots false _ HX.out.1 H1.out).mono ?_
    rintro e w' ⟨rfl, rfl⟩
    go_wp2
    go_ret
    exact ⟨by rw [HE2.out]; rfl, HB.out⟩
  · have n1 := locS_nn H1.out
    have u1 := HX.out.1.2
    cases b2
    · have HE2 : Hid (eM x regs slots = 10) := by rw [Hid, HE.out, HD.out]; rfl
      go_enter Tryz.func29, Tryz.ntmps29
      go_wp2_with fail
      refine (rlocin_at _ regs slots true _ HX.out.1 H1.out).mono ?_
      rintro e w' ⟨rfl, rfl⟩
      go_wp2_with fail
      refine (rlocin_at _ regs slots false _ HX.out.2 H2.out).mono ?_
      rintro e w' ⟨rfl, rfl⟩
      go_wp2
      go_ret
      exact ⟨by rw [HE2.out]; rfl, HB.out⟩
    · have n2 := locS_nn H2.out
      have u2 := HX.out.2.2
      go_enter Tryz.func29, Tryz.ntmps29
      go_wp2_with fail
      refine (rlocin_at _ regs slots true _ HX.out.1 H1.out).mono ?_
      rintro e w' ⟨rfl, rfl⟩
      go_wp2_with fail
      refine (rlocin_at _ regs slots true _ HX.out.2 H2.out).mono ?_
      rintro e w' ⟨rfl, rfl⟩
      cases s1
      · have e1 : (x.dst % 2 == 1) = false := by have := H3.out; simpa using this
        have HD2 : Hid (x.bad regs slots = false) := HD.out
        rcases zf_ways x with ⟨hz, h | ⟨h, h' | ⟨h', h'' | ⟨h'', h'''⟩⟩⟩⟩ | ⟨hz, h, h', h'', h'''⟩
        all_goals
          have HZ := Lib.hid hz
          clear hz
          go_wp2
          go_ret
          exact ⟨by rw [HE.out, HD2.out, HZ.out]; rfl, HB.out⟩
      · have e1 : (x.dst % 2 == 1) = true := by have := H3.out; simpa using this
        cases s2
        · have e2 : (x.src % 2 == 1) = false := by have := H4.out; simpa using this
          have HD2 : Hid (x.bad regs slots = false) := HD.out
          rcases zf_ways x with ⟨hz, h | ⟨h, h' | ⟨h', h'' | ⟨h'', h'''⟩⟩⟩⟩ | ⟨hz, h, h', h'', h'''⟩
          all_goals
            have HZ := Lib.hid hz
            clear hz
            go_wp2
            go_ret
            exact ⟨by rw [HE.out, HD2.out, HZ.out]; rfl, HB.out⟩
        · have e2 : (x.src % 2 == 1) = true := by have := H4.out; simpa using this
          have HD2 : Hid (x.bad regs slots = true) := HD.out
          go_wp2
          go_ret
          exact ⟨by rw [HE.out, HD2.out]; rfl, HB.out⟩

set_option maxRecDepth 100000 in
set_option maxHeartbeats 2000000 in
theorem rot_any (x : Mi) (regs slots : Int) (w : World) (l1 : 1 ≤ x.op) (l2 : x.op ≤ 18) (l3 : (x.op == 2) = false) (l4 : (x.op == 18) = false) (he : eM x regs slots = eOt x regs) :
    Calls Tryz.prog 29 #[.agg #[.int .i64 x.op, .int .i64 x.d, .int .i64 x.a, .int .i64 x.b, .int .i64 x.imm, .int .i64 x.dst, .int .i64 x.src], .int .i64 regs, .int .i64 slots] w fun e w' => e = .returned (.int .i64 (eM x regs slots)) ∧ Below w.heap.size w w' := by
  have HB := Lib.hid ((Below.refl w.heap.size w).alloc (Nat.le_refl _) (.cells #[.int .i64 x.op, .int .i64 x.d, .int .i64 x.a, .int .i64 x.b, .int .i64 x.imm, .int .i64 x.dst, .int .i64 x.src] 71))
  have HR := Lib.hid (Row.new w 71 #[.int .i64 x.op, .int .i64 x.d, .int .i64 x.a, .int .i64 x.b, .int .i64 x.imm, .int .i64 x.dst, .int .i64 x.src])
  have HK := Lib.hid (rinstr_any x.ins regs (w.alloc (.cells #[.int .i64 x.op, .int .i64 x.d, .int .i64 x.a, .int .i64 x.b, .int .i64 x.imm, .int .i64 x.dst, .int .i64 x.src] 71)))
  have HE : Hid (eM x regs slots = if (eI x.ins regs == 0 && (x.dst != 0 || x.src != 0)) then 12 else eI x.ins regs) := he
  clear he
  generalize eI x.ins regs = v at *
  go_enter Tryz.func29, Tryz.ntmps29
  go_wp2_with fail
  refine HK.out.mono ?_
  rintro e W1 ⟨rfl, hb⟩
  have HB1 := Lib.hid (HB.out.trans (hb.mono HB.out.size))
  have hr := HR.out.below hb HR.out.lt
  have c5 := hr.cell 5; have c6 := hr.cell 6
  simp only [List.getElem?_toArray, List.getElem?_cons_zero, List.getElem?_cons_succ] at c5 c6
  clear hb hr
  cases h0 : (v == 0)
  · have HE2 : Hid (eM x regs slots = v) := by rw [Hid, HE.out, h0]; rfl
    go_wp2
    go_ret
    exact ⟨by rw [HE2.out]; rfl, HB1.out⟩
  · cases h1 : (x.dst != 0)
    · cases h2 : (x.src != 0)
      · have HE2 : Hid (eM x regs slots = v) := by rw [Hid, HE.out, h0, h1, h2]; rfl
        go_wp2
        go_ret
        exact ⟨by rw [HE2.out]; rfl, HB1.out⟩
      · have HE2 : Hid (eM x regs slots = 12) := by rw [Hid, HE.out, h0, h1, h2]; rfl
        go_wp2
        go_ret
        exact ⟨by rw [HE2.out]; rfl, HB1.out⟩
    · have HE2 : Hid (eM x regs slots = 12) := by rw [Hid, HE.out, h0, h1]; rfl
      go_wp2
      go_ret
      exact ⟨by rw [HE2.out]; rfl, HB1.out⟩

set_option maxRecDepth 100000 in
set_option maxHeartbeats 2000000 in
theorem rminstr_any (x : Mi) (regs slots : Int) (w : World) (hx : x.Ok) :
    Calls Tryz.prog 29 #[.agg #[.int .i64 x.op, .int .i64 x.d, .int .i64 x.a, .int .i64 x.b, .int .i64 x.imm, .int .i64 x.dst, .int .i64 x.src], .int .i64 regs, .int .i64 slots] w fun e w' => e = .returned (.int .i64 (eM x regs slots)) ∧ Below w.heap.size w w' := by
  have HB := Lib.hid ((Below.refl w.heap.size w).alloc (Nat.le_refl _) (.cells #[.int .i64 x.op, .int .i64 x.d, .int .i64 x.a, .int .i64 x.b, .int .i64 x.imm, .int .i64 x.dst, .int .i64 x.src] 71))
  rcases mopc_ways x.op with ⟨ho, h⟩ | ⟨ho, l1, l2, l3⟩
  · have HE2 : Hid (eM x regs slots = 8) := by rw [Hid, eM, ho]; rfl
    clear ho hx
    rcases h with h | h | h
    · go_enter Tryz.func29, Tryz.ntmps29
      go_wp2
      go_ret
      exact ⟨by rw [HE2.out]; rfl, HB.out⟩
    · have h0 : ¬ x.op < 1 := by omega
      go_enter Tryz.func29, Tryz.ntmps29
      go_wp2
      go_ret
      exact ⟨by rw [HE2.out]; rfl, HB.out⟩
    · have h0 : (x.op == 2) = true := by rw [h]; rfl
      have h1 : ¬ x.op < 1 := by omega
      have h2 : ¬ 18 < x.op := by omega
      clear h
      go_enter Tryz.func29, Tryz.ntmps29
      go_wp2
      go_ret
      exact ⟨by rw [HE2.out]; rfl, HB.out⟩
  · have he : eM x regs slots = if x.mv then eMv x regs slots else eOt x regs := by rw [eM, ho]; rfl
    cases hm : x.mv
    · rw [hm] at he
      exact rot_any x regs slots w l1 l2 l3 hm he
    · rw [hm] at he
      exact rmv_any x regs slots w hx l1 l2 l3 hm he

end Go.Proofs.YtmmdhhjpbolkhaaGreat
