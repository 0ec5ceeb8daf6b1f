/-
  The walk of the statement on spoiled fields of layer 7.
-/
import Derived.Test.YtddcbdmmjjpbhaaSrcSpoil
import Derived.Test.YtddcbdmmjjpbhaaSrcAwake
import Derived.Test.YtddcbdmmjjpbhaaSrcFew
import Derived.Test.YtddcbdmmjjpbhaaSrcIn
import Derived.Test.YtddcbdmmjjpbhaaSrcRchk
import Derived.Deep.Cut
namespace Go.Proofs.Ytddcbdmmjjpbhaa
open Go.RowKit
set_option linter.unusedVariables false

set_option maxRecDepth 100000 in
set_option maxHeartbeats 4000000 in
theorem SourceSpoils_walk (a0 : Array Value) (a1 a2 : Int) (w : World) (w0 : IsFn w a0) (w1 : (Lit.int .u16 a1).wf = true) (w2 : (Lit.int .i64 a2).wf = true) :
    Calls Try.prog 6 #[.agg a0, .int .u16 a1, .int .i64 a2] w fun e w' => e = .returned (.bool true) ∧ Below w.heap.size w w' := by
  obtain ⟨args, regs, A, bs, c, rfl, _, _, hbl, hbm, hs, _⟩ := w0
  obtain ⟨n0, n1⟩ : 0 ≤ a1 ∧ a1 ≤ 65535 := by simp [Lit.wf, IntKind.min, IntKind.max, IntKind.signed, IntKind.bits] at w1; omega
  obtain ⟨v0, v1⟩ := i64_of_wf w2
  clear w1 w2
  have HB0 := Lib.hid ((Below.refl w.heap.size w).alloc (Nat.le_refl _) (.cells #[.int .i64 args, .int .i64 regs, .slice A bs.length c] 24))
  have HX0 := Lib.hid (Row.new w 24 #[.int .i64 args, .int .i64 regs, .slice A bs.length c])
  have hbl2 : bs.length ≤ maxLen := Nat.le_trans hbl hbm
  go_enter Try.func6, Try.ntmps6
  go_wp2_with fail
  refine (awake_any _).mono ?_
  rintro e W1 ⟨rfl, hb⟩
  have HB1 := Lib.hid (HB0.out.trans (hb.mono HB0.out.size))
  have HX1 := Lib.hid (HX0.out.below hb HX0.out.lt)
  have HS := Lib.hid hs
  clear hb HB0 HX0 hbl hbm hs
  have d0 := HX1.out.cell 0; have d1 := HX1.out.cell 1; have d2 := HX1.out.cell 2
  simp only [List.getElem?_toArray, List.getElem?_cons_zero, List.getElem?_cons_succ] at d0 d1 d2
  go_wp2_with fail
  refine (rfew_any w.heap.size A bs c args regs _ (HS.out.below HB1.out) HB1.out.size hbl2).mono ?_
  rintro e W2 ⟨⟨b, rfl, hf⟩, hb⟩
  have HB2 := Lib.hid (HB1.out.trans (hb.mono HB1.out.size))
  have HX2 := Lib.hid (HX1.out.below hb HX1.out.lt)
  clear hb HB1 HX1 d0 d1 d2 hbl2
  have d0 := HX2.out.cell 0; have d1 := HX2.out.cell 1; have d2 := HX2.out.cell 2
  simp only [List.getElem?_toArray, List.getElem?_cons_zero, List.getElem?_cons_succ] at d0 d1 d2
  cases b
  · clear hf
    go_wp2_with fail
    refine (awake_any _).mono ?_
    rintro e W3 ⟨rfl, hb⟩
    have HB3 := Lib.hid (HB2.out.trans (hb.mono HB2.out.size))
    clear hb
    go_wp2
    go_ret
    exact ⟨rfl, HB3.out⟩
  have HF := Lib.hid (hf rfl)
  clear hf
  have hm : bs.length ≤ 1000 := by have := HF.out.1; omega
  have hn : codeN bs ≤ 1000000 := by have := HF.out.2.2; omega
  go_wp2_with fail
  refine (rcheck_any w.heap.size A bs c args regs _ (HS.out.below HB2.out) HB2.out.size hm hn).mono ?_
  rintro e W3 ⟨rfl, hb⟩
  have HB3 := Lib.hid (HB2.out.trans (hb.mono HB2.out.size))
  have HX3 := Lib.hid (HX2.out.below hb HX2.out.lt)
  clear hb HB2 HX2 d0 d1 d2
  have d0 := HX3.out.cell 0; have d1 := HX3.out.cell 1; have d2 := HX3.out.cell 2
  simp only [List.getElem?_toArray, List.getElem?_cons_zero, List.getElem?_cons_succ] at d0 d1 d2
  by_cases hz : eF args regs bs = 0
  case neg =>
    obtain ⟨z, hzz⟩ : ∃ z, eF args regs bs = z := ⟨_, rfl⟩
    rw [hzz] at hz ⊢
    have e0 : (z != 0) = true := by simp [hz]
    clear hz hzz
    go_wp2_with fail
    refine (awake_any _).mono ?_
    rintro e W4 ⟨rfl, hb⟩
    have HB4 := Lib.hid (HB3.out.trans (hb.mono HB3.out.size))
    clear hb
    go_wp2
    go_ret
    exact ⟨rfl, HB4.out⟩
  rw [hz]
  have HZ := Lib.hid hz
  clear hz
  by_cases hv : a2 = 0
  · have e0 : (a2 == 0) = true := by simp [hv]
    clear hv
    go_wp2_with fail
    refine (awake_any _).mono ?_
    rintro e W4 ⟨rfl, hb⟩
    have HB4 := Lib.hid (HB3.out.trans (hb.mono HB3.out.size))
    clear hb
    go_wp2
    go_ret
    exact ⟨rfl, HB4.out⟩
  have e0 : (a2 == 0) = false := by simp [hv]
  have HV := Lib.hid hv
  clear hv
  go_wp2_with fail
  refine (rcopy_any w.heap.size A bs c args regs _ (HS.out.below HB3.out) HB3.out.size hm hn).mono ?_
  rintro e W4 ⟨vg, vs, rfl, hnest, hb⟩
  obtain ⟨Ag, cg, rfl, _, _, hgb⟩ := nest_blks hnest
  have HB4 := Lib.hid (HB3.out.trans (hb.mono HB3.out.size))
  have HX4 := Lib.hid (HX3.out.below hb HX3.out.lt)
  have HN4 := Lib.hid hnest
  have hwz : w.heap.size < W3.heap.size := HX3.out.lt
  have H4 := Lib.hid (fun (i g : Nat) (u : Value) (hu : vs[i]? = some u) (hg : u.ownBlock = some g) => (show g < W4.heap.size from by
    obtain ⟨x, _, hx⟩ := hnest.get hu
    exact (ownS_lt hx g hg).2))
  have HG := Lib.hid ((hgb.alloc (Nat.le_refl _) (.cells #[.int .i64 args, .int .i64 regs, .slice Ag bs.length cg] 24)))
  clear hb HB3 HX3 d0 d1 d2 hnest hgb
  go_wp2_with fail
  refine (rcode_any W4.heap.size Ag bs cg args regs _ HG.out (by simp) hm hn).mono ?_
  rintro e W5 ⟨rfl, hb⟩
  have HB5 := Lib.hid ((HB4.out.alloc HB4.out.size (.cells #[.int .i64 args, .int .i64 regs, .slice Ag bs.length cg] 24)).trans (hb.mono (HB4.out.alloc HB4.out.size _).size))
  have HX5 := Lib.hid ((HX4.out.alloc (.cells #[.int .i64 args, .int .i64 regs, .slice Ag bs.length cg] 24)).below hb (HX4.out.alloc _).lt)
  have HY5 := Lib.hid ((Row.new W4 24 #[.int .i64 args, .int .i64 regs, .slice Ag bs.length cg]).below hb (Row.new W4 _ _).lt)
  have HN5 := Lib.hid ((HN4.out.below ((Below.refl _ _).alloc (Nat.le_refl _) (.cells #[.int .i64 args, .int .i64 regs, .slice Ag bs.length cg] 24))).below hb)
  have hsz4 : w.heap.size < W4.heap.size := HX4.out.lt
  clear hb HB4 HX4 HN4 HG
  by_cases h0 : codeN bs = 0
  · rw [h0]
    clear h0
    go_wp2
    go_ret
    exact ⟨rfl, HB5.out⟩
  have e1 : ((codeN bs : Int) == 0) = false := beq_eq_false_iff_ne.2 (by omega)
  obtain ⟨kk, hkk, hkl⟩ : ∃ kk : Nat, a1.tmod (codeN bs : Int) = kk ∧ kk < codeN bs := by
    have h1 : 0 ≤ a1.tmod (codeN bs : Int) := Int.tmod_nonneg _ n0
    have h2 : a1.tmod (codeN bs : Int) < (codeN bs : Int) := Int.tmod_lt_of_pos _ (by omega)
    exact ⟨(a1.tmod (codeN bs : Int)).toNat, by omega, by omega⟩
  have HKL := Lib.hid hkl
  have hcn2 : kk ≤ 1000000 := by omega
  go_wp2_with fail
  have HKK := Lib.hid hkk
  have y2 := HY5.out.cell 2
  simp only [List.getElem?_toArray, List.getElem?_cons_zero, List.getElem?_cons_succ] at y2
  clear hkl hkk e1 h0
  go_loop [9, 10] (fun q i => ∃ j m : Nat, j ≤ bs.length ∧ i = .int .i64 j ∧ q = .int .i64 m ∧ Hid (m + codeN (bs.take j) = kk)) (fun _ i => bs.length - (intOf i).toNat)
  case atStart => exact ⟨0, kk, Nat.zero_le _, rfl, rfl, by simp [Hid, codeN]⟩
  case round =>
    obtain ⟨j, m, hj, rfl, rfl, HM⟩ := hrel
    by_cases hlt : j < bs.length
    case neg =>
      obtain rfl : j = bs.length := by omega
      exfalso
      have h1 := HM.out
      have h2 := HKL.out
      rw [List.take_length] at h1
      omega
    obtain ⟨b, o, cap, A1, c1, hv, hb, hcell, hvs, hown⟩ := nest_at HN5.out hlt
    injection hv with hv _ hcap
    subst hv
    subst hcap
    have hm1 : m ≤ 1000000 := by have := HM.out; omega
    have hstep := codeN_step bs j hlt
    have hle := codeN_take bs (j + 1)
    by_cases hmm : m < bs[j].code.length
    case neg =>
      have HM2 : Hid (m - bs[j].code.length + codeN (bs.take (j + 1)) = kk) := by
        have h1 := HM.out
        rw [Hid]
        omega
      have hl1 : bs[j].code.length ≤ m := by omega
      clear hstep hle hmm hown hvs HM
      generalize bs[j].code.length = n at *
      go_wp2
      go_round
      case rel => exact ⟨j + 1, m - n, by omega, by go_num, by go_num, HM2.out⟩
      case measure => simp [intOf]; omega
    obtain ⟨g, o2, rfl, hglt, hat⟩ := (insAt_sees (sees_own hown)).at_ hmm
    obtain ⟨g', hg', hbg, _, hfr⟩ := own_block hown (by omega)
    injection hg' with hg'
    injection hg' with hg1 hg2
    subst hg1
    have HO2 := Lib.hid hg2
    have HVS : Hid (vs[j]? = some (.slice (some ⟨g, 0, none⟩) bs[j].code.length c1)) := by rw [Hid, hvs, hg2]
    have hg4 : g < W4.heap.size := H4.out j g _ hvs rfl
    have i0 := hat.c0; have i1 := hat.c1; have i2 := hat.c2; have i3 := hat.c3; have i4 := hat.c4
    obtain ⟨d, hd⟩ : ∃ z, uD bs[j].code[m].op = z := ⟨_, rfl⟩
    obtain ⟨aa, ha⟩ : ∃ z, uA bs[j].code[m].op = z := ⟨_, rfl⟩
    obtain ⟨bb, hb9⟩ : ∃ z, uB bs[j].code[m].op = z := ⟨_, rfl⟩
    have HC := Lib.hid fun W => of_at bs[j].code[m].op d aa bb (uI bs[j].code[m].op) (uO bs[j].code[m].op) W hd ha hb9 rfl rfl
    have HD := Lib.hid hd; have HBB := Lib.hid hb9
    have HSP := Lib.hid (eF_spoil hlt hmm HZ.out HV.out)
    have hw5 : W4.heap.size < W5.heap.size := HY5.out.lt
    have hi4 : m * 5 + 4 < bs[j].code.length * 5 := by omega
    have HAT := Lib.hid hat
    clear hstep hle hd ha hb9 hat hown hvs hg2 HM
    go_wp2_with fail
    refine (HC.out _).mono ?_
    rintro e W6 ⟨rfl, hb6⟩
    have HB6 := Lib.hid ((HB5.out.alloc HB5.out.size (.cells #[.int .i64 bs[j].code[m].op, .int .i64 bs[j].code[m].d, .int .i64 bs[j].code[m].a, .int .i64 bs[j].code[m].b, .int .i64 bs[j].code[m].imm] 26)).trans (hb6.mono (HB5.out.alloc HB5.out.size _).size))
    have KB := Lib.hid (((Below.refl W5.heap.size W5).alloc (Nat.le_refl _) (.cells #[.int .i64 bs[j].code[m].op, .int .i64 bs[j].code[m].d, .int .i64 bs[j].code[m].a, .int .i64 bs[j].code[m].b, .int .i64 bs[j].code[m].imm] 26)).trans (hb6.mono (by simp)))
    have HN6 := Lib.hid (HN5.out.below KB.out)
    have HX6 := Lib.hid (HX5.out.below KB.out HX5.out.lt)
    have HY6 := Lib.hid (HY5.out.below KB.out HY5.out.lt)
    have p0 := HX6.out.cell 0; have p1 := HX6.out.cell 1; have p2 := HX6.out.cell 2
    have q0 := HY6.out.cell 0; have q1 := HY6.out.cell 1; have q2 := HY6.out.cell 2
    simp only [List.getElem?_toArray, List.getElem?_cons_zero, List.getElem?_cons_succ] at p0 p1 p2 q0 q1 q2
    have hc6 := (KB.out.cell (p := ⟨b, o + j * 5, none⟩) hb).trans hcell
    have k3 := (KB.out.cell (p := ⟨g, o2 + m * 5 + 3, none⟩) hglt).trans i3
    have k4 := (KB.out.cell (p := ⟨g, o2 + m * 5 + 4, none⟩) hglt).trans i4
    have r3 := (KB.out.frozen (p := ⟨g, o2 + m * 5 + 3, none⟩) hglt).trans (hfr _)
    have r4 := (KB.out.frozen (p := ⟨g, o2 + m * 5 + 4, none⟩) hglt).trans (hfr _)
    have l1 : g < W6.heap.size := Nat.lt_of_lt_of_le hglt KB.out.size
    have l2 : b < W6.heap.size := Nat.lt_of_lt_of_le hb KB.out.size
    have l3 : W4.heap.size < W6.heap.size := HY6.out.lt
    have l4 : w.heap.size < W6.heap.size := HX6.out.lt
    have hwg : w.heap.size ≤ (⟨g, 0, none⟩ : Addr).block := by show w.heap.size ≤ g; omega
    have hwne : w.heap.size ≠ g := by omega
    have hgne : W4.heap.size ≠ g := by omega
    have hgne2 : g ≠ W4.heap.size := by omega
    clear hb6 KB hcell i0 i1 i2 i3 i4 hfr HAT y2 HC HB5 HX5 HY5 HN5 H4
    cases bb
    · go_wp2_with fail
      have hnn : NestV bshp ((W6.setCell ⟨g, o2 + m * 5 + 3, none⟩ (.int .i64 a2)).alloc (.cells #[.bool d, .bool aa, .bool false, .bool (uI bs[j].code[m].op)] 47)) W3.heap.size (.slice (some ⟨b, o, none⟩) bs.length cg) vs (bs.set j { bs[j] with code := bs[j].code.set m (bs[j].code[m].sp a2) }) := by
        have h9 := HO2.out
        subst h9
        rw [Nat.zero_add]
        refine (nest_store (j := 3) HN6.out hlt hmm HVS.out (by decide) ?_).below ((Below.refl _ _).alloc (Nat.le_refl _) _)
        rw [In.sp, HBB.out, HD.out]
        rfl
      obtain ⟨A9, c9, hv9, _, _, h9⟩ := nest_blks hnn
      injection hv9 with hv9 hl9 hc9
      subst hv9
      clear hl9 hc9
      have HB7 := Lib.hid ((HB6.out.setCell (p := ⟨g, o2 + m * 5 + 3, none⟩) hwg (.int .i64 a2)).alloc (HB6.out.setCell (p := ⟨g, o2 + m * 5 + 3, none⟩) hwg (.int .i64 a2)).size (.cells #[.bool d, .bool aa, .bool false, .bool (uI bs[j].code[m].op)] 47))
      have HX7 := Lib.hid ((HX6.out.far (q := ⟨g, o2 + m * 5 + 3, none⟩) hwne (.int .i64 a2)).alloc (.cells #[.bool d, .bool aa, .bool false, .bool (uI bs[j].code[m].op)] 47))
      clear hnn
      refine (check_at (v := 12) cg bs.length h9 (Nat.le_refl _) (List.length_set ..) hm (by rw [codeN_set bs j hlt (by simp)]; exact hn) HSP.out).mono ?_
      rintro e W8 ⟨rfl, hb8⟩
      have HB8 := Lib.hid (HB7.out.trans (hb8.mono HB7.out.size))
      have HX8 := Lib.hid (HX7.out.below hb8 HX7.out.lt)
      clear h9 hb8 HX7 HB7 HX6 HB6 HY6 HN6 p0 p1 p2 q0 q1 q2 k3 k4 hc6 r3 r4
      have p0 := HX8.out.cell 0; have p1 := HX8.out.cell 1; have p2 := HX8.out.cell 2
      simp only [List.getElem?_toArray, List.getElem?_cons_zero, List.getElem?_cons_succ] at p0 p1 p2
      go_wp2_with fail
      refine (check_at (v := 0) c bs.length (HS.out.below HB8.out) HB8.out.size rfl hm hn HZ.out).mono ?_
      rintro e W9 ⟨rfl, hb9⟩
      have HB9 := Lib.hid (HB8.out.trans (hb9.mono HB8.out.size))
      clear hb9
      go_wp2
      go_ret
      exact ⟨rfl, HB9.out⟩
    · cases d
      · go_wp2_with fail
        have hnn : NestV bshp ((W6.setCell ⟨g, o2 + m * 5 + 3, none⟩ (.int .i64 a2)).alloc (.cells #[.bool false, .bool aa, .bool true, .bool (uI bs[j].code[m].op)] 47)) W3.heap.size (.slice (some ⟨b, o, none⟩) bs.length cg) vs (bs.set j { bs[j] with code := bs[j].code.set m (bs[j].code[m].sp a2) }) := by
          have h9 := HO2.out
          subst h9
          rw [Nat.zero_add]
          refine (nest_store (j := 3) HN6.out hlt hmm HVS.out (by decide) ?_).below ((Below.refl _ _).alloc (Nat.le_refl _) _)
          rw [In.sp, HBB.out, HD.out]
          rfl
        obtain ⟨A9, c9, hv9, _, _, h9⟩ := nest_blks hnn
        injection hv9 with hv9 hl9 hc9
        subst hv9
        clear hl9 hc9
        have HB7 := Lib.hid ((HB6.out.setCell (p := ⟨g, o2 + m * 5 + 3, none⟩) hwg (.int .i64 a2)).alloc (HB6.out.setCell (p := ⟨g, o2 + m * 5 + 3, none⟩) hwg (.int .i64 a2)).size (.cells #[.bool false, .bool aa, .bool true, .bool (uI bs[j].code[m].op)] 47))
        have HX7 := Lib.hid ((HX6.out.far (q := ⟨g, o2 + m * 5 + 3, none⟩) hwne (.int .i64 a2)).alloc (.cells #[.bool false, .bool aa, .bool true, .bool (uI bs[j].code[m].op)] 47))
        clear hnn
        refine (check_at (v := 12) cg bs.length h9 (Nat.le_refl _) (List.length_set ..) hm (by rw [codeN_set bs j hlt (by simp)]; exact hn) HSP.out).mono ?_
        rintro e W8 ⟨rfl, hb8⟩
        have HB8 := Lib.hid (HB7.out.trans (hb8.mono HB7.out.size))
        have HX8 := Lib.hid (HX7.out.below hb8 HX7.out.lt)
        clear h9 hb8 HX7 HB7 HX6 HB6 HY6 HN6 p0 p1 p2 q0 q1 q2 k3 k4 hc6 r3 r4
        have p0 := HX8.out.cell 0; have p1 := HX8.out.cell 1; have p2 := HX8.out.cell 2
        simp only [List.getElem?_toArray, List.getElem?_cons_zero, List.getElem?_cons_succ] at p0 p1 p2
        go_wp2_with fail
        refine (check_at (v := 0) c bs.length (HS.out.below HB8.out) HB8.out.size rfl hm hn HZ.out).mono ?_
        rintro e W9 ⟨rfl, hb9⟩
        have HB9 := Lib.hid (HB8.out.trans (hb9.mono HB8.out.size))
        clear hb9
        go_wp2
        go_ret
        exact ⟨rfl, HB9.out⟩
      · go_wp2_with fail
        have hnn : NestV bshp ((W6.setCell ⟨g, o2 + m * 5 + 4, none⟩ (.int .i64 a2)).alloc (.cells #[.bool true, .bool aa, .bool true, .bool (uI bs[j].code[m].op)] 47)) W3.heap.size (.slice (some ⟨b, o, none⟩) bs.length cg) vs (bs.set j { bs[j] with code := bs[j].code.set m (bs[j].code[m].sp a2) }) := by
          have h9 := HO2.out
          subst h9
          rw [Nat.zero_add]
          refine (nest_store (j := 4) HN6.out hlt hmm HVS.out (by decide) ?_).below ((Below.refl _ _).alloc (Nat.le_refl _) _)
          rw [In.sp, HBB.out, HD.out]
          rfl
        obtain ⟨A9, c9, hv9, _, _, h9⟩ := nest_blks hnn
        injection hv9 with hv9 hl9 hc9
        subst hv9
        clear hl9 hc9
        have HB7 := Lib.hid ((HB6.out.setCell (p := ⟨g, o2 + m * 5 + 4, none⟩) hwg (.int .i64 a2)).alloc (HB6.out.setCell (p := ⟨g, o2 + m * 5 + 4, none⟩) hwg (.int .i64 a2)).size (.cells #[.bool true, .bool aa, .bool true, .bool (uI bs[j].code[m].op)] 47))
        have HX7 := Lib.hid ((HX6.out.far (q := ⟨g, o2 + m * 5 + 4, none⟩) hwne (.int .i64 a2)).alloc (.cells #[.bool true, .bool aa, .bool true, .bool (uI bs[j].code[m].op)] 47))
        clear hnn
        refine (check_at (v := 12) cg bs.length h9 (Nat.le_refl _) (List.length_set ..) hm (by rw [codeN_set bs j hlt (by simp)]; exact hn) HSP.out).mono ?_
        rintro e W8 ⟨rfl, hb8⟩
        have HB8 := Lib.hid (HB7.out.trans (hb8.mono HB7.out.size))
        have HX8 := Lib.hid (HX7.out.below hb8 HX7.out.lt)
        clear h9 hb8 HX7 HB7 HX6 HB6 HY6 HN6 p0 p1 p2 q0 q1 q2 k3 k4 hc6 r3 r4
        have p0 := HX8.out.cell 0; have p1 := HX8.out.cell 1; have p2 := HX8.out.cell 2
        simp only [List.getElem?_toArray, List.getElem?_cons_zero, List.getElem?_cons_succ] at p0 p1 p2
        go_wp2_with fail
        refine (check_at (v := 0) c bs.length (HS.out.below HB8.out) HB8.out.size rfl hm hn HZ.out).mono ?_
        rintro e W9 ⟨rfl, hb9⟩
        have HB9 := Lib.hid (HB8.out.trans (hb9.mono HB8.out.size))
        clear hb9
        go_wp2
        go_ret
        exact ⟨rfl, HB9.out⟩

end Go.Proofs.Ytddcbdmmjjpbhaa
