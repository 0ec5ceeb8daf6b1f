/-
  The program's functions on one instruction: isMove, extend, moveError, otherError, the finder and its two functions, Instr.
-/
import Derived.Test.YtcindgaonaloeaaMacMath
import Derived.Test.YtcindgaonaloeaaSrcIns
import Derived.Laws.EntriesVeiled
namespace Go.Proofs.Ytcindgaonaloeaa
open Go.RowKit
set_option linter.unusedVariables false

set_option maxRecDepth 100000 in
theorem ismove_any (x : Mi) (w : World) :
    Calls Try.prog 27 #[.agg #[.int .i64 x.op, .int .i64 x.d, .int .i64 x.a, .int .i64 x.b, .int .i64 x.imm, .int .i64 x.dst, .int .i64 x.src]] w fun e w' => e = .returned (.bool x.mv) ∧ Below w.heap.size w w' := by
  have HB := Lib.hid ((Below.refl w.heap.size w).alloc (Nat.le_refl _) (.cells #[.int .i64 x.op, .int .i64 x.d, .int .i64 x.a, .int .i64 x.b, .int .i64 x.imm, .int .i64 x.dst, .int .i64 x.src] 27))
  go_enter Try.func27, Try.ntmps27
  go_wp2
  go_ret
  exact ⟨rfl, HB.out⟩

set_option maxRecDepth 100000 in
theorem extend_any (run : Nat) (x : Mi) (w : World) (hr : run ≤ 1000000) :
    Calls Try.prog 18 #[.int .i64 run, .agg #[.int .i64 x.op, .int .i64 x.d, .int .i64 x.a, .int .i64 x.b, .int .i64 x.imm, .int .i64 x.dst, .int .i64 x.src]] w fun e w' => e = .returned (.int .i64 (ext run x : Nat)) ∧ Below w.heap.size w w' := by
  have HB := Lib.hid ((Below.refl w.heap.size w).alloc (Nat.le_refl _) (.cells #[.int .i64 x.op, .int .i64 x.d, .int .i64 x.a, .int .i64 x.b, .int .i64 x.imm, .int .i64 x.dst, .int .i64 x.src] 27))
  have HK := Lib.hid (ismove_any x (w.alloc (.cells #[.int .i64 x.op, .int .i64 x.d, .int .i64 x.a, .int .i64 x.b, .int .i64 x.imm, .int .i64 x.dst, .int .i64 x.src] 27)))
  unfold ext
  generalize x.mv = b at *
  cases b
  all_goals
    go_enter Try.func18, Try.ntmps18
    go_wp2_with fail
    refine HK.out.mono ?_
    rintro e W1 ⟨rfl, hb⟩
    have HB1 := Lib.hid (HB.out.trans (hb.mono HB.out.size))
    clear hb
    go_wp2
    go_ret
    exact ⟨ret1 (by simp), HB1.out⟩

/-- The first field of a move that is not 0. -/
theorem zf_ways (x : Mi) : (x.zf = true ∧ ((x.d != 0) = true ∨ ((x.d != 0) = false ∧ ((x.a != 0) = true ∨ ((x.a != 0) = false ∧ ((x.b != 0) = true ∨ ((x.b != 0) = false ∧ (x.imm != 0) = true))))))) ∨
    (x.zf = false ∧ (x.d != 0) = false ∧ (x.a != 0) = false ∧ (x.b != 0) = false ∧ (x.imm != 0) = false) := by
  unfold Mi.zf
  cases (x.d != 0) <;> cases (x.a != 0) <;> cases (x.b != 0) <;> cases (x.imm != 0) <;> decide

set_option maxRecDepth 100000 in
set_option maxHeartbeats 2000000 in
theorem moveerr_any (x : Mi) (regs slots : Int) (w : World) (hx : x.Ok) :
    Calls Try.prog 29 #[.agg #[.int .i64 x.op, .int .i64 x.d, .int .i64 x.a, .int .i64 x.b, .int .i64 x.imm, .int .i64 x.dst, .int .i64 x.src], .int .i64 regs, .int .i64 slots] w fun e w' => e = .returned (.int .i64 (eMv x regs slots)) ∧ Below w.heap.size w w' := by
  have HB := Lib.hid ((Below.refl w.heap.size w).alloc (Nat.le_refl _) (.cells #[.int .i64 x.op, .int .i64 x.d, .int .i64 x.a, .int .i64 x.b, .int .i64 x.imm, .int .i64 x.dst, .int .i64 x.src] 27))
  have HE : Hid (eMv x regs slots = if x.bad regs slots then 10 else if x.zf then 12 else 0) := rfl
  have HX := Lib.hid hx
  clear hx
  obtain ⟨b1, h1⟩ : ∃ z, locS x.dst regs slots = z := ⟨_, rfl⟩
  obtain ⟨b2, h2⟩ : ∃ z, locS x.src regs slots = z := ⟨_, rfl⟩
  obtain ⟨s1, h3⟩ : ∃ z, decide (x.dst % 2 = 1) = z := ⟨_, rfl⟩
  obtain ⟨s2, h4⟩ : ∃ z, decide (x.src % 2 = 1) = z := ⟨_, rfl⟩
  have HD : Hid (x.bad regs slots = (!b1 || !b2 || (s1 && s2))) := by rw [Hid, Mi.bad, h1, h2, h3, h4]
  have H1 := Lib.hid h1; have H2 := Lib.hid h2; have H3 := Lib.hid h3; have H4 := Lib.hid h4
  clear h1 h2 h3 h4
  cases b1
  · have HE2 : Hid (eMv x regs slots = 10) := by rw [Hid, HE.out, HD.out]; rfl
    go_enter Try.func29, Try.ntmps29
    go_wp2_with fail
    refine (locin_at _ regs slots false _ HX.out.1 H1.out).mono ?_
    rintro e w' ⟨rfl, rfl⟩
    go_wp2
    go_ret
    exact ⟨by rw [HE2.out]; rfl, HB.out⟩
  · have HN1 := Lib.hid (locS_nn H1.out)
    cases b2
    · have HE2 : Hid (eMv x regs slots = 10) := by rw [Hid, HE.out, HD.out]; rfl
      go_enter Try.func29, Try.ntmps29
      go_wp2_with fail
      refine (locin_at _ regs slots true _ HX.out.1 H1.out).mono ?_
      rintro e w' ⟨rfl, rfl⟩
      go_wp2_with fail
      refine (locin_at _ regs slots false _ HX.out.2 H2.out).mono ?_
      rintro e w' ⟨rfl, rfl⟩
      go_wp2
      go_ret
      exact ⟨by rw [HE2.out]; rfl, HB.out⟩
    · have HN2 := Lib.hid (locS_nn H2.out)
      go_enter Try.func29, Try.ntmps29
      go_wp2_with fail
      refine (locin_at _ regs slots true _ HX.out.1 H1.out).mono ?_
      rintro e w' ⟨rfl, rfl⟩
      go_wp2_with fail
      refine (locin_at _ regs slots true _ HX.out.2 H2.out).mono ?_
      rintro e w' ⟨rfl, rfl⟩
      go_wp2_with fail
      cases s1
      · refine (locslot_any _ false _ HN1.out HX.out.1.2 H3.out).mono ?_
        rintro e w' ⟨rfl, rfl⟩
        have HD2 : Hid (x.bad regs slots = false) := HD.out
        rcases zf_ways x with ⟨hz, h | ⟨h, h' | ⟨h', h'' | ⟨h'', h'''⟩⟩⟩⟩ | ⟨hz, h, h', h'', h'''⟩
        all_goals
          have HZ := Lib.hid hz
          clear hz
          go_wp2
          go_ret
          exact ⟨by rw [HE.out, HD2.out, HZ.out]; rfl, HB.out⟩
      · refine (locslot_any _ true _ HN1.out HX.out.1.2 H3.out).mono ?_
        rintro e w' ⟨rfl, rfl⟩
        go_wp2_with fail
        cases s2
        · refine (locslot_any _ false _ HN2.out HX.out.2.2 H4.out).mono ?_
          rintro e w' ⟨rfl, rfl⟩
          have HD2 : Hid (x.bad regs slots = false) := HD.out
          rcases zf_ways x with ⟨hz, h | ⟨h, h' | ⟨h', h'' | ⟨h'', h'''⟩⟩⟩⟩ | ⟨hz, h, h', h'', h'''⟩
          all_goals
            have HZ := Lib.hid hz
            clear hz
            go_wp2
            go_ret
            exact ⟨by rw [HE.out, HD2.out, HZ.out]; rfl, HB.out⟩
        · refine (locslot_any _ true _ HN2.out HX.out.2.2 H4.out).mono ?_
          rintro e w' ⟨rfl, rfl⟩
          have HD2 : Hid (x.bad regs slots = true) := HD.out
          go_wp2
          go_ret
          exact ⟨by rw [HE.out, HD2.out]; rfl, HB.out⟩

set_option maxRecDepth 100000 in
set_option maxHeartbeats 2000000 in
theorem othererr_any (x : Mi) (regs : Int) (w : World) :
    Calls Try.prog 31 #[.agg #[.int .i64 x.op, .int .i64 x.d, .int .i64 x.a, .int .i64 x.b, .int .i64 x.imm, .int .i64 x.dst, .int .i64 x.src], .int .i64 regs] w fun e w' => e = .returned (.int .i64 (eOt x regs)) ∧ Below w.heap.size w w' := by
  have HB := Lib.hid ((Below.refl w.heap.size w).alloc (Nat.le_refl _) (.cells #[.int .i64 x.op, .int .i64 x.d, .int .i64 x.a, .int .i64 x.b, .int .i64 x.imm, .int .i64 x.dst, .int .i64 x.src] 27))
  have HR := Lib.hid (Row.new w 27 #[.int .i64 x.op, .int .i64 x.d, .int .i64 x.a, .int .i64 x.b, .int .i64 x.imm, .int .i64 x.dst, .int .i64 x.src])
  have HK := Lib.hid (instr_any x.ins regs (w.alloc (.cells #[.int .i64 x.op, .int .i64 x.d, .int .i64 x.a, .int .i64 x.b, .int .i64 x.imm, .int .i64 x.dst, .int .i64 x.src] 27)))
  have HE : Hid (eOt x regs = if (eI x.ins regs == 0 && (x.dst != 0 || x.src != 0)) then 12 else eI x.ins regs) := rfl
  generalize eI x.ins regs = v at *
  go_enter Try.func31, Try.ntmps31
  go_wp2_with fail
  refine HK.out.mono ?_
  rintro e W1 ⟨rfl, hb⟩
  have HB1 := Lib.hid (HB.out.trans (hb.mono HB.out.size))
  have hr := HR.out.below hb HR.out.lt
  have c5 := hr.cell 5; have c6 := hr.cell 6
  simp only [List.getElem?_toArray, List.getElem?_cons_zero, List.getElem?_cons_succ] at c5 c6
  clear hb hr
  cases h0 : (v == 0)
  · have HE2 : Hid (eOt x regs = v) := by rw [Hid, HE.out, h0]; rfl
    go_wp2
    go_ret
    exact ⟨by rw [HE2.out]; rfl, HB1.out⟩
  · cases h1 : (x.dst != 0)
    · cases h2 : (x.src != 0)
      · have HE2 : Hid (eOt x regs = v) := by rw [Hid, HE.out, h0, h1, h2]; rfl
        go_wp2
        go_ret
        exact ⟨by rw [HE2.out]; rfl, HB1.out⟩
      · have HE2 : Hid (eOt x regs = 12) := by rw [Hid, HE.out, h0, h1, h2]; rfl
        go_wp2
        go_ret
        exact ⟨by rw [HE2.out]; rfl, HB1.out⟩
    · have HE2 : Hid (eOt x regs = 12) := by rw [Hid, HE.out, h0, h1]; rfl
      go_wp2
      go_ret
      exact ⟨by rw [HE2.out]; rfl, HB1.out⟩

set_option maxRecDepth 100000 in
theorem moveC (x : Mi) (regs slots : Int) (p q : Nat) (w : World) (hx : x.Ok) (hp : w.cell? ⟨p, 0, none⟩ = some (.int .i64 regs)) (hq : w.cell? ⟨q, 0, none⟩ = some (.int .i64 slots)) :
    Calls Try.prog 28 #[.agg #[.int .i64 x.op, .int .i64 x.d, .int .i64 x.a, .int .i64 x.b, .int .i64 x.imm, .int .i64 x.dst, .int .i64 x.src], .pointer (some ⟨p, 0, none⟩), .pointer (some ⟨q, 0, none⟩)] w fun e w' => e = .returned (.int .i64 (eMv x regs slots)) ∧ Below w.heap.size w w' := by
  have HB := Lib.hid ((Below.refl w.heap.size w).alloc (Nat.le_refl _) (.cells #[.int .i64 x.op, .int .i64 x.d, .int .i64 x.a, .int .i64 x.b, .int .i64 x.imm, .int .i64 x.dst, .int .i64 x.src] 27))
  have HK := Lib.hid (fun W => moveerr_any x regs slots W hx)
  have hp2 : p < w.heap.size := World.block_lt_of_cell? w _ hp
  have hq2 : q < w.heap.size := World.block_lt_of_cell? w _ hq
  clear hx
  generalize eMv x regs slots = v at *
  go_enter Try.func28, Try.ntmps28
  go_wp2_with fail
  refine (HK.out _).mono ?_
  rintro e W1 ⟨rfl, hb⟩
  have HB1 := Lib.hid (HB.out.trans (hb.mono HB.out.size))
  clear hb
  go_wp2
  go_ret
  exact ⟨rfl, HB1.out⟩

set_option maxRecDepth 100000 in
theorem otherC (x : Mi) (regs : Int) (p : Nat) (w : World) (hp : w.cell? ⟨p, 0, none⟩ = some (.int .i64 regs)) :
    Calls Try.prog 30 #[.agg #[.int .i64 x.op, .int .i64 x.d, .int .i64 x.a, .int .i64 x.b, .int .i64 x.imm, .int .i64 x.dst, .int .i64 x.src], .pointer (some ⟨p, 0, none⟩)] w fun e w' => e = .returned (.int .i64 (eOt x regs)) ∧ Below w.heap.size w w' := by
  have HB := Lib.hid ((Below.refl w.heap.size w).alloc (Nat.le_refl _) (.cells #[.int .i64 x.op, .int .i64 x.d, .int .i64 x.a, .int .i64 x.b, .int .i64 x.imm, .int .i64 x.dst, .int .i64 x.src] 27))
  have HK := Lib.hid (fun W => othererr_any x regs W)
  have hp2 : p < w.heap.size := World.block_lt_of_cell? w _ hp
  generalize eOt x regs = v at *
  go_enter Try.func30, Try.ntmps30
  go_wp2_with fail
  refine (HK.out _).mono ?_
  rintro e W1 ⟨rfl, hb⟩
  have HB1 := Lib.hid (HB.out.trans (hb.mono HB.out.size))
  clear hb
  go_wp2
  go_ret
  exact ⟨rfl, HB1.out⟩

end Go.Proofs.Ytcindgaonaloeaa
