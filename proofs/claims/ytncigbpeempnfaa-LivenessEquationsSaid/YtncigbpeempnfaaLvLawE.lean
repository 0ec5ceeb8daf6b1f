/-
  The walk of the statement on the equations of liveness.
-/
import Derived.Test.YtncigbpeempnfaaLvHead
namespace Go.Proofs.Ytncigbpeempnfaa
open Go.RowKit
set_option linter.unusedVariables false

set_option maxRecDepth 100000 in
set_option maxHeartbeats 8000000 in
theorem LivenessEquations_walk (a0 : Array Value) (w : World) (w0 : IsFn w a0) :
    Calls Try.prog 4 #[.agg a0] w fun e w' => e = .returned (.bool true) ∧ Below w.heap.size w w' := by
  obtain ⟨args, regs, A, bs, c, rfl, _, _, hbl, hbm, hs, hw⟩ := w0
  have H0 : Hid (LF23 w w.heap.size args regs A bs c _) := LF23.start hs
  have hbl2 : bs.length ≤ maxLen := Nat.le_trans hbl hbm
  have HWF := Lib.hid hw
  clear hbl hbm hs hw
  go_enter Try.func4, Try.ntmps4
  go_wp2_with fail
  refine (awake23_any _).mono ?_
  rintro e W1 ⟨rfl, hb⟩
  have h1 := H0.out.next hb
  have H1 := Lib.hid h1
  have d0 := h1.f.k0; have d1 := h1.f.k1; have d2 := h1.f.k2
  clear hb H0 h1
  go_wp2_with fail
  refine (rfew_any w.heap.size A bs c args regs _ H1.out.b H1.out.below.size hbl2).mono ?_
  rintro e W2 ⟨⟨b, rfl, hf⟩, hb⟩
  have h2 := H1.out.next hb
  have H2 := Lib.hid h2
  clear hb H1 d0 d1 d2 hbl2
  have d0 := h2.f.k0; have d1 := h2.f.k1; have d2 := h2.f.k2
  clear h2
  cases b
  · clear hf d0 d1 d2
    go_wp2_with fail
    refine (awake23_any _).mono ?_
    rintro e W3 ⟨rfl, hb⟩
    have HB3 := Lib.hid (H2.out.next hb).below
    clear hb H2
    go_wp2_with fail
    go_ret
    exact ⟨rfl, HB3.out⟩
  · have HF := Lib.hid (hf rfl)
    clear hf
    have C2 := Lib.hid (rcheck_any w.heap.size A bs c args regs W2 H2.out.b H2.out.below.size (by have := HF.out.1; omega) (by have := HF.out.2.2; omega))
    obtain ⟨v, hv⟩ : ∃ z, eF args regs bs = z := ⟨_, rfl⟩
    rw [hv] at C2
    have HE := Lib.hid hv
    clear hv
    by_cases hv : v = 0
    · subst hv
      obtain ⟨N, hN, hN60, hOK, hFN⟩ := fn_of HF.out HE.out HWF.out
      subst hN
      have hm40 : bs.length ≤ 40 := HF.out.1
      have hc300 : codeN bs ≤ 300 := HF.out.2.2
      have HOK := Lib.hid hOK
      have HFN := Lib.hid hFN
      clear hOK hFN HF HE
      have e00 : ((0 : Int) != 0) = false := rfl
      have enn : ((bs.length : Int) != (bs.length : Int)) = false := by simp
      have hbs : bs.length ≤ 9223372036854775807 := by omega
      go_wp2_with fail
      refine C2.out.mono ?_
      rintro e W3 ⟨rfl, hb⟩
      have h3 := H2.out.next hb
      clear hb C2 d0 d1 d2 H2
      have d0 := h3.f.k0; have d1 := h3.f.k1; have d2 := h3.f.k2
      have H3 := Lib.hid h3
      have HI := Lib.hid (pin_any args N A bs c N W3 h3.blks HFN.out)
      clear h3
      go_upto_region 4 with (go_at_call 17; refine (HI.out).mono ?_; rintro e W4 h4; obtain ⟨Ai, rfl, h5, h6⟩ := h4.see; have H4 := Lib.hid (H3.out.next h6); have HSI := Lib.hid h5; clear h4 h5 h6)
      clear HI H3 d0 d1 d2
      have d0 := H4.out.f.k0; have d1 := H4.out.f.k1; have d2 := H4.out.f.k2
      have HO := Lib.hid (pout_any args N A bs c N W4 H4.out.blks HFN.out)
      go_upto_region 5 with (go_at_call 19; refine (HO.out).mono ?_; rintro e W5 h4; obtain ⟨Ao, rfl, h5, h6⟩ := h4.see; have H5 := Lib.hid (H4.out.next h6); have HSO := Lib.hid h5; have HSI := Lib.hid ((HSI.out.below h6).more h6.size); clear h4 h5 h6)
      clear HO H4 d0 d1 d2
      have d0 := H5.out.f.k0; have d1 := H5.out.f.k1; have d2 := H5.out.f.k2
      have HW5 : Hid (EW23 w w.heap.size args N A bs c Ai (fL23 (inL bs N) bs.length) Ao (fL23 (outL bs N) bs.length) W5) := ⟨H5.out, HSI.out, HSO.out⟩
      go_upto_region 8 with fail
      clear HSI HSO H5 d0 d1 d2
      go_loopg [5] bs.length (fun q s5 wr => ∃ i : Nat, i + q = bs.length ∧ s5 = .int .i64 (i : Int) ∧ Hid (EW23 w w.heap.size args N A bs c Ai (fL23 (inL bs N) bs.length) Ao (fL23 (outL bs N) bs.length) wr))
      case atStart => exact ⟨0, by omega, rfl, HW5.out⟩
      case round =>
        clear HW5
        obtain ⟨i, hi, rfl, HW⟩ := hrel
        have d0 := HW.out.lw.f.k0; have d1 := HW.out.lw.f.k1; have d2 := HW.out.lw.f.k2
        cases gk with
        | zero =>
          obtain rfl : i = bs.length := by omega
          go_wp2_with fail
          go_ret
          exact ⟨rfl, HW.out.lw.below⟩
        | succ g1 =>
          have hlt : i < bs.length := by omega
          obtain ⟨b', o, A1, c1, rfl, hc1, hc2, hx⟩ := HW.out.lw.xc hlt
          have hbk : blkAt bs i = bs[i] := blkAt_lt hlt
          have HEQ : Hid (∀ z, lvB bs z i = (bUse bs[i] z || lvO bs z i && !bDef bs[i] z)) := fun z => by rw [lvB_eq hlt, hbk]
          have HLO : Hid (∀ z, lvO bs z i = (succs bs[i].term).any fun s => lvB bs z s.toNat) := fun z => by rw [lvO, hbk]
          have hok := HFN.out.ok bs[i] (List.getElem_mem hlt)
          have htj := HFN.out.succ bs[i] (List.getElem_mem hlt)
          have hcm := HFN.out.code bs[i] (List.getElem_mem hlt)
          clear hbk
          generalize bs[i] = x at *
          have HX := Lib.hid hx
          have HU := Lib.hid (fun W (h : InsAt W W.heap.size A1 x.code) => uses_any A1 x c1 N W h hcm (by omega) hok)
          have HD := Lib.hid (fun W (h : InsAt W W.heap.size A1 x.code) => defs_any A1 x c1 N W h hcm (by omega) hok)
          have HT := Lib.hid (fun W => rsucc_any x.term W)
          have HTJ := Lib.hid htj
          have f0 := hx.k0; have f1 := hx.k1; have f2 := hx.k2; have f3 := hx.k3; have f4 := hx.k4
          have HU1 := Lib.hid (HU.out _ hx.ins)
          clear hx hok htj hcm HU
          go_upto_region 11 with (go_at_call 14; refine (HU1.out).mono ?_; rintro e W6 ⟨Au, cu, rfl, h6⟩; have H6 := Lib.hid (HW.out.next h6.blw); have HX6 := Lib.hid (HX.out.next h6.blw); have HSU := Lib.hid h6.see.2; clear h6)
          clear HW HX f0 f1 f2 f3 f4 d0 d1 d2 HU1
          have d0 := H6.out.lw.f.k0; have d1 := H6.out.lw.f.k1; have d2 := H6.out.lw.f.k2
          have f0 := HX6.out.k0; have f1 := HX6.out.k1; have f2 := HX6.out.k2; have f3 := HX6.out.k3; have f4 := HX6.out.k4
          have HD1 := Lib.hid (HD.out _ HX6.out.ins)
          go_upto_region 12 with (go_at_call 15; refine (HD1.out).mono ?_; rintro e W7 ⟨Ad, cd, rfl, h6⟩; have H7 := Lib.hid (H6.out.next h6.blw); have HX7 := Lib.hid (HX6.out.next h6.blw); have HSU := Lib.hid ((HSU.out.below h6.blw).more h6.blw.size); have HSD := Lib.hid h6.see.2; clear h6)
          clear H6 HX6 f0 f1 f2 f3 f4 d0 d1 d2 HD1 HD
          have d0 := H7.out.lw.f.k0; have d1 := H7.out.lw.f.k1; have d2 := H7.out.lw.f.k2
          have f0 := HX7.out.k0; have f1 := HX7.out.k1; have f2 := HX7.out.k2; have f3 := HX7.out.k3; have f4 := HX7.out.k4
          have HT1 := Lib.hid (HT.out W7)
          go_upto_region 13 with (go_at_call 21; refine (HT1.out).mono ?_; rintro e W8 ⟨As, cs, rfl, hcs1, hcs2, hse, hb⟩; have H8 := Lib.hid (H7.out.next hb); have HSU := Lib.hid ((HSU.out.below hb).more hb.size); have HSD := Lib.hid ((HSD.out.below hb).more hb.size); have HSE := Lib.hid hse; clear hse hb)
          clear H7 HX7 f0 f1 f2 f3 f4 d0 d1 d2 HT1 HT
          generalize succs x.term = l at *
          have hll : l.length ≤ 9223372036854775807 := by unfold maxLen at hcs2; omega
          obtain ⟨bi, oi, A2, c2, rfl, e1, e2, e3⟩ := H8.out.si.fl hlt
          obtain ⟨bo, oo, A3, c3, rfl, g1', g2', g3'⟩ := H8.out.so.fl hlt
          have HI2 := Lib.hid (fun v : Int => rhas23_any W8.heap.size A2 (inL bs N i) c2 v W8 e3 e2)
          have HO2 := Lib.hid (fun v : Int => rhas23_any W8.heap.size A3 (outL bs N i) c3 v W8 g3' g2')
          have hul : (useL x N).length ≤ 100000 := Nat.le_trans (regL_len _ _) (by omega)
          have hdl : (defL x N).length ≤ 100000 := Nat.le_trans (regL_len _ _) (by omega)
          have HU2 := Lib.hid (fun v : Int => rhas23_any W8.heap.size Au (useL x N) cu v W8 HSU.out (by unfold maxLen; omega))
          have HD2 := Lib.hid (fun v : Int => rhas23_any W8.heap.size Ad (defL x N) cd v W8 HSD.out (by unfold maxLen; omega))
          have HIV : Hid (∀ v : Nat, v < N → decide ((v : Int) ∈ inL bs N i) = lvB bs v i) := fun v hv => inL_has' hv
          have HOV : Hid (∀ v : Nat, v < N → decide ((v : Int) ∈ outL bs N i) = lvO bs v i) := fun v hv => outL_has hv
          have HUV : Hid (∀ v : Nat, v < N → decide ((v : Int) ∈ useL x N) = bUse x v) := fun v hv => useL_has hv
          have HDV : Hid (∀ v : Nat, v < N → decide ((v : Int) ∈ defL x N) = bDef x v) := fun v hv => defL_has hv
          have HSI8 := Lib.hid H8.out.si
          clear e2 e3 g2' g3' HSU HSD
          generalize inL bs N i = Li at *
          generalize outL bs N i = Lo at *
          generalize useL x N = Lu at *
          generalize defL x N = Ld at *
          have d1 := H8.out.lw.f.k1; have d0 := H8.out.lw.f.k0; have d2 := H8.out.lw.f.k2
          go_upto_region 14 with fail
          go_loopg [9] N (fun q s9 wx => ∃ v : Nat, v + q = N ∧ s9 = .int .i64 (v : Int) ∧ wx = W8)
          case atStart => exact ⟨0, by omega, rfl, rfl⟩
          case round =>
            obtain ⟨v, hv, rfl, rfl⟩ := hrel
            cases gk with
            | zero =>
              obtain rfl : v = N := by omega
              go_wp2_with fail
              go_roundg g1
              case measure => omega
              case rel => exact ⟨i + 1, by omega, by go_num, H8.out⟩
            | succ g2 =>
              have hvN : v < N := by omega
              have hI3 := HI2.out v; have hO3 := HO2.out v; have hU3 := HU2.out v; have hD3 := HD2.out v
              rw [HIV.out v hvN] at hI3
              rw [HOV.out v hvN] at hO3
              rw [HUV.out v hvN] at hU3
              rw [HDV.out v hvN] at hD3
              have HI3 := Lib.hid hI3; have HO3 := Lib.hid hO3; have HU3 := Lib.hid hU3; have HD3 := Lib.hid hD3
              have HEV := Lib.hid (HEQ.out v)
              have HLV := Lib.hid (HLO.out v)
              clear hI3 hO3 hU3 hD3
              obtain ⟨D, hD⟩ : ∃ D : Nat → Bool, D = fun k => (l.take k).any fun s => lvB bs v s.toNat := ⟨_, rfl⟩
              have HDn : Hid (D l.length = lvO bs v i) := by subst hD; show (l.take l.length).any _ = _; rw [HLV.out, List.take_of_length_le (Nat.le_refl _)]
              have HD0 : Hid (D 0 = false) := by subst hD; rfl
              have HDs : Hid (∀ (k : Nat) (s : Int), l[k]? = some s → D (k + 1) = (D k || lvB bs v s.toNat)) := fun k s hk => by
                subst hD
                have hkl : k < l.length := (List.getElem?_eq_some_iff.1 hk).1
                have e : l[k] = s := (List.getElem?_eq_some_iff.1 hk).2
                simp only [List.take_succ_eq_append_getElem hkl, List.any_append, List.any_cons, List.any_nil, Bool.or_false, e]
              clear hD
              go_upto_region 18 with fail
              (try rw [show decide (v < N) = true from decide_eq_true (by omega)])
              go_loopg [10, 11] l.length (fun q s10 s11 wx => ∃ k : Nat, k + q = l.length ∧ s10 = .bool (D k) ∧ s11 = .int .i64 (k : Int) ∧ wx = wr)
              case atStart => exact ⟨0, by omega, by rw [HD0.out], rfl, rfl⟩
              case round =>
                obtain ⟨k, hk, rfl, rfl, rfl⟩ := hrel
                cases gk with
                | zero =>
                  obtain rfl : k = l.length := by omega
                  rw [HDn.out]
                  have HEE := HEV.out
                  generalize lvO bs v i = vo at *
                  generalize bUse x v = vu at *
                  generalize bDef x v = vd at *
                  generalize lvB bs v i = vi at *
                  subst HEE
                  have HLAST : Hid True := trivial
                  clear HEV HLV HDn HD0 HDs HIV HOV HUV HDV HSI8
                  cases vo <;> cases vu <;> cases vd <;> (
                    go_wp2_with (first
                      | (go_at_call 22; with_reducible refine (HO3.out).mono ?_; rintro e w4 ⟨rfl, rfl⟩)
                      | (go_at_call 22; with_reducible refine (HI3.out).mono ?_; rintro e w4 ⟨rfl, rfl⟩)
                      | (go_at_call 22; with_reducible refine (HU3.out).mono ?_; rintro e w4 ⟨rfl, rfl⟩)
                      | (go_at_call 22; with_reducible refine (HD3.out).mono ?_; rintro e w4 ⟨rfl, rfl⟩))
                    go_roundg g2
                    case measure => omega
                    case rel => exact ⟨v + 1, by omega, by go_num, rfl⟩)
                | succ g3 =>
                  have hkl : k < l.length := by omega
                  obtain ⟨bq, oq, hA, _, hcell⟩ := ints_at HSE.out hkl
                  have hsk := HDs.out k l[k] (List.getElem?_eq_getElem hkl)
                  have hts := HTJ.out l[k] (List.getElem_mem hkl)
                  generalize l[k] = s at *
                  obtain ⟨sn, rfl⟩ := Int.eq_ofNat_of_zero_le hts.1
                  have hsn : sn < bs.length := by omega
                  clear hts
                  rw [Int.toNat_natCast] at hsk
                  obtain ⟨b2, o2, A4, c4, e2, hc4, hm4, hse4⟩ := HSI8.out.fl hsn
                  injection e2 with e2
                  injection e2 with e2 e3
                  subst e2 e3
                  have hH := rhas23_any wr.heap.size A4 (inL bs N sn) c4 (v : Int) wr hse4 hm4
                  rw [inL_has' hvN] at hH
                  have HH := Lib.hid hH
                  clear hH hm4 hse4
                  generalize inL bs N sn = z4 at *
                  subst hA
                  cases hd : D k
                  · rw [hd, Bool.false_or] at hsk
                    have HSK := Lib.hid hsk
                    clear hsk hd
                    go_wp2_with (go_at_call 22; refine (HH.out).mono ?_; rintro e w4 ⟨rfl, rfl⟩)
                    go_roundg g3
                    case measure => omega
                    case rel => exact ⟨k + 1, by omega, by rw [HSK.out], by go_num, rfl⟩
                  · rw [hd, Bool.true_or] at hsk
                    have HSK := Lib.hid hsk
                    clear hsk hd
                    go_wp2_with fail
                    go_roundg g3
                    case measure => omega
                    case rel => exact ⟨k + 1, by omega, by rw [HSK.out], by go_num, rfl⟩
    · have hv0 : (v != 0) = true := by simp [hv]
      clear hv
      go_wp2_with fail
      refine C2.out.mono ?_
      rintro e W3 ⟨rfl, hb⟩
      have H3 := Lib.hid (H2.out.next hb)
      clear hb C2 d0 d1 d2
      go_wp2_with fail
      refine (awake23_any _).mono ?_
      rintro e W4 ⟨rfl, hb⟩
      have HB4 := Lib.hid (H3.out.next hb).below
      clear hb H3 H2
      go_wp2_with fail
      go_ret
      exact ⟨rfl, HB4.out⟩

end Go.Proofs.Ytncigbpeempnfaa
