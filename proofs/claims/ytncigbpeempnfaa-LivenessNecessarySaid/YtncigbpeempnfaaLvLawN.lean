/-
  The walk of the statement on what is necessarily live.
-/
import Derived.Test.YtncigbpeempnfaaLvHead
namespace Go.Proofs.Ytncigbpeempnfaa
open Go.RowKit
set_option linter.unusedVariables false

set_option maxRecDepth 100000 in
set_option maxHeartbeats 8000000 in
theorem LivenessNecessary_walk (a0 : Array Value) (a1 : Int) (w : World) (w0 : IsFn w a0) (w1 : (Lit.int .u8 a1).wf = true) :
    Calls Try.prog 6 #[.agg a0, .int .u8 a1] w fun e w' => e = .returned (.bool true) ∧ Below w.heap.size w w' := by
  obtain ⟨args, regs, A, bs, c, rfl, _, _, hbl, hbm, hs, hw⟩ := w0
  have H0 : Hid (LF23 w w.heap.size args regs A bs c _) := LF23.start hs
  have hbl2 : bs.length ≤ maxLen := Nat.le_trans hbl hbm
  have HWF := Lib.hid hw
  clear hbl hbm hs hw
  go_enter Try.func6, Try.ntmps6
  go_wp2_with fail
  refine (awake23_any _).mono ?_
  rintro e W1 ⟨rfl, hb⟩
  have h1 := H0.out.next hb
  have H1 := Lib.hid h1
  have d0 := h1.f.k0; have d1 := h1.f.k1; have d2 := h1.f.k2
  clear hb H0 h1
  go_wp2_with fail
  refine (rfew_any w.heap.size A bs c args regs _ H1.out.b H1.out.below.size hbl2).mono ?_
  rintro e W2 ⟨⟨b, rfl, hf⟩, hb⟩
  have h2 := H1.out.next hb
  have H2 := Lib.hid h2
  clear hb H1 d0 d1 d2 hbl2
  have d0 := h2.f.k0; have d1 := h2.f.k1; have d2 := h2.f.k2
  clear h2
  cases b
  · clear hf d0 d1 d2
    go_wp2_with fail
    refine (awake23_any _).mono ?_
    rintro e W3 ⟨rfl, hb⟩
    have HB3 := Lib.hid (H2.out.next hb).below
    clear hb H2
    go_wp2_with fail
    go_ret
    exact ⟨rfl, HB3.out⟩
  · have HF := Lib.hid (hf rfl)
    clear hf
    have C2 := Lib.hid (rcheck_any w.heap.size A bs c args regs W2 H2.out.b H2.out.below.size (by have := HF.out.1; omega) (by have := HF.out.2.2; omega))
    obtain ⟨v, hv⟩ : ∃ z, eF args regs bs = z := ⟨_, rfl⟩
    rw [hv] at C2
    have HE := Lib.hid hv
    clear hv
    by_cases hv : v = 0
    · subst hv
      obtain ⟨N, hN, hN60, hOK, hFN⟩ := fn_of HF.out HE.out HWF.out
      subst hN
      have hm40 : bs.length ≤ 40 := HF.out.1
      have hc300 : codeN bs ≤ 300 := HF.out.2.2
      have HOK := Lib.hid hOK
      have HFN := Lib.hid hFN
      clear hOK hFN HF HE
      have e00 : ((0 : Int) != 0) = false := rfl
      have enn : ((bs.length : Int) != (bs.length : Int)) = false := by simp
      have hbs : bs.length ≤ 9223372036854775807 := by omega
      obtain ⟨ha0, ha1⟩ := u8_of_wf w1
      go_wp2_with fail
      refine C2.out.mono ?_
      rintro e W3 ⟨rfl, hb⟩
      have h3 := H2.out.next hb
      clear hb C2 d0 d1 d2 H2
      have d0 := h3.f.k0; have d1 := h3.f.k1; have d2 := h3.f.k2
      have H3 := Lib.hid h3
      by_cases hN0 : N = 0
      · have eN : ((N : Int) == 0) = true := by subst hN0; rfl
        clear h3 hN0
        go_wp2_with fail
        refine (awake23_any _).mono ?_
        rintro e W4 ⟨rfl, hb⟩
        have HB4 := Lib.hid (H3.out.next hb).below
        clear hb H3
        go_wp2_with fail
        go_ret
        exact ⟨rfl, HB4.out⟩
      · have eN : ((N : Int) == 0) = false := by simp; omega
        have HI := Lib.hid (pin_any args N A bs c N W3 h3.blks HFN.out)
        clear h3
        go_upto_region 4 with fail
        obtain ⟨v, hv, hvN⟩ : ∃ v : Nat, a1 % (N : Int) = (v : Int) ∧ v < N := by
          have h1 := Int.emod_nonneg a1 (show (N : Int) ≠ 0 by omega)
          have h2 := Int.emod_lt_of_pos a1 (show (0 : Int) < (N : Int) by omega)
          exact ⟨(a1 % (N : Int)).toNat, by omega, by omega⟩
        rw [hv]
        clear hv ha0 ha1
        go_upto_region 5 with (go_at_call 17; refine (HI.out).mono ?_; rintro e W4 h4; obtain ⟨Ai, rfl, h5, h6⟩ := h4.see; have HW4 := Lib.hid (EW23.mk (Ao := none) (ys := []) (H3.out.next h6) h5 (fun h => absurd rfl h)); clear h4 h5 h6)
        clear HI H3 d0 d1 d2
        have d0 := HW4.out.lw.f.k0; have d1 := HW4.out.lw.f.k1; have d2 := HW4.out.lw.f.k2
        go_upto_region 8 with fail
        clear d0 d1 d2
        go_loopg [7] bs.length (fun q s7 wr => ∃ i : Nat, i + q = bs.length ∧ s7 = .int .i64 (i : Int) ∧ Hid (EW23 w w.heap.size args N A bs c Ai (fL23 (inL bs N) bs.length) none [] wr))
        case atStart => exact ⟨0, by omega, rfl, HW4.out⟩
        case round =>
          clear HW4
          obtain ⟨i, hi, rfl, HW⟩ := hrel
          have d0 := HW.out.lw.f.k0; have d1 := HW.out.lw.f.k1; have d2 := HW.out.lw.f.k2
          cases gk with
          | zero =>
            obtain rfl : i = bs.length := by omega
            go_wp2_with fail
            go_ret
            exact ⟨rfl, HW.out.lw.below⟩
          | succ g1 =>
            have hlt : i < bs.length := by omega
            obtain ⟨b', o, A1, c1, rfl, hc1, hc2, hx⟩ := HW.out.lw.xc hlt
            have hbk : blkAt bs i = bs[i] := blkAt_lt hlt
            have HEQ : Hid (lvB bs v i = (bUse bs[i] v || lvO bs v i && !bDef bs[i] v)) := by rw [Hid, lvB_eq hlt, hbk]
            have HLO : Hid (lvO bs v i = (succs bs[i].term).any fun s => lvB bs v s.toNat) := by rw [Hid, lvO, hbk]
            have htj := HFN.out.succ bs[i] (List.getElem_mem hlt)
            have hcm := HFN.out.code bs[i] (List.getElem_mem hlt)
            clear hbk
            generalize bs[i] = x at *
            have HU := Lib.hid (fun W (h : InsAt W W.heap.size A1 x.code) => rused23_any A1 x c1 (v : Int) W h hcm)
            have HDF := Lib.hid (fun W (h : InsAt W W.heap.size A1 x.code) => rdef23_any A1 x c1 (v : Int) x.code.length W h (Nat.le_refl _) hcm)
            have HBD : Hid (lvD x.code v x.code.length = bDef x v) := rfl
            have HT := Lib.hid (fun W => rsucc_any x.term W)
            have HTJ := Lib.hid htj
            have f0 := hx.k0; have f1 := hx.k1; have f2 := hx.k2; have f3 := hx.k3; have f4 := hx.k4
            have HX := Lib.hid hx
            clear hx htj hcm
            go_upto_region 11 with fail
            have HB := Row.new wr 34 #[.slice A1 x.code.length c1, .int .i64 x.term.kind, .int .i64 x.term.a, .int .i64 x.term.to, .int .i64 x.term.el]
            have hba : Below wr.heap.size wr (wr.alloc (.cells #[.slice A1 x.code.length c1, .int .i64 x.term.kind, .int .i64 x.term.a, .int .i64 x.term.to, .int .i64 x.term.el] 34)) := (Below.refl _ _).alloc (Nat.le_refl _) _
            have HW9 := Lib.hid (HW.out.next hba)
            have hin := (HX.out.next hba).ins
            clear HW HX f0 f1 f2 f3 f4 d0 d1 d2 hba
            generalize (wr.alloc (.cells #[.slice A1 x.code.length c1, .int .i64 x.term.kind, .int .i64 x.term.a, .int .i64 x.term.to, .int .i64 x.term.el] 34)) = W9 at *
            obtain ⟨xb, hxb⟩ : ∃ z, wr.heap.size = z := ⟨_, rfl⟩
            rw [hxb] at HB ⊢
            clear hxb
            have f0 := HB.k0; have f1 := HB.k1; have f2 := HB.k2; have f3 := HB.k3; have f4 := HB.k4
            have HU1 := Lib.hid (HU.out W9 hin)
            have HB9 := Lib.hid (XC.mk f0 f1 f2 f3 f4 hin HB.lt)
            clear HU hin HB
            have HIN : Hid (∀ W, EW23 w w.heap.size args N (some ⟨b', o, none⟩) bs c Ai (fL23 (inL bs N) bs.length) none [] W → ∀ j, j < bs.length → ∃ bi oi A2 c2, ∃ n2, Ai = some ⟨bi, oi, none⟩ ∧ W.cell? ⟨bi, oi + j, none⟩ = some (.slice A2 n2 c2) ∧ Calls Try.prog 22 #[.slice A2 n2 c2, .int .i64 (v : Int)] W fun e w' => e = .returned (.bool (lvB bs v j)) ∧ w' = W) := fun W h j hj => by
              obtain ⟨bi, oi, A2, c2, e, h1, h2, h3⟩ := h.si.fl hj
              have hH := rhas23_any W.heap.size A2 (inL bs N j) c2 (v : Int) W h3 h2
              rw [inL_has' hvN] at hH
              exact ⟨bi, oi, A2, c2, _, e, h1, hH⟩
            go_cut [65] from 49 to 101 (fun s65 wx => s65 = .bool false ∧ Hid (EW23 w w.heap.size args N (some ⟨b', o, none⟩) bs c Ai (fL23 (inL bs N) bs.length) none [] wx) ∧ Hid (XC xb 0 A1 c1 x wx))
            case first =>
              obtain ⟨bu, hbu⟩ : ∃ z, bUse x v = z := ⟨_, rfl⟩
              rw [hbu] at HU1
              have HBU := Lib.hid hbu
              clear hbu
              cases bu
              · go_wp2_with (go_at_call 11; with_reducible refine (HU1.out).mono ?_; rintro e w4 ⟨rfl, hb4⟩; have H4 := Lib.hid (HW9.out.next hb4); have HX4 := Lib.hid (HB9.out.next hb4); clear hb4)
                go_meet
                case rel => exact ⟨rfl, H4.out, HX4.out⟩
              · have hlv : lvB bs v i = true := by rw [HEQ.out, HBU.out]; rfl
                have HLV := Lib.hid hlv
                clear hlv
                go_wp2_with (first
                  | (go_at_call 11; with_reducible refine (HU1.out).mono ?_; rintro e w4 ⟨rfl, hb4⟩; have H4 := Lib.hid (HW9.out.next hb4); have HX4 := Lib.hid (HB9.out.next hb4); clear hb4; obtain ⟨bi, oi, A2, c2, n2, rfl, hc2i, hH⟩ := HIN.out w4 H4.out i hlt; rw [HLV.out] at hH; have HH := Lib.hid hH; clear hH)
                  | (go_at_call 22; with_reducible refine (HH.out).mono ?_; rintro e w5 ⟨rfl, rfl⟩))
                go_meet
                case rel => exact ⟨rfl, H4.out, HX4.out⟩
            case rest =>
              obtain ⟨rfl, HW, HX⟩ := hcut
              clear HW9 HB9 HU1 f0 f1 f2 f3 f4
              have f0 := HX.out.k0; have f1 := HX.out.k1; have f2 := HX.out.k2; have f3 := HX.out.k3; have f4 := HX.out.k4
              have HT1 := Lib.hid (HT.out wc)
              go_upto_region 14 with (go_at_call 21; go_must (refine (HT1.out).mono ?_); rintro e W8 ⟨As, cs, rfl, hcs1, hcs2, hse, hb⟩; have HN8 := Lib.hid (NW.mk (HW.out.next hb) (HX.out.next hb) hse); clear hse hb)
              clear HW HX HT1 HT f0 f1 f2 f3 f4
              have HLV : Hid (∀ s ∈ succs x.term, lvB bs v s.toNat = true → bDef x v = false → lvB bs v i = true) := fun s hs h1 h2 => by
                have : lvO bs v i = true := by rw [HLO.out, List.any_eq_true]; exact ⟨s, hs, h1⟩
                rw [HEQ.out, this, h2]; simp
              generalize succs x.term = l at *
              have hll : l.length ≤ 9223372036854775807 := by unfold maxLen at hcs2; omega
              go_upto_region 15 with fail
              go_loopg [10] l.length (fun q s10 wx => ∃ k : Nat, k + q = l.length ∧ s10 = .int .i64 (k : Int) ∧ Hid (NW w w.heap.size args N (some ⟨b', o, none⟩) bs c Ai (fL23 (inL bs N) bs.length) xb A1 c1 x As l wx))
              case atStart => exact ⟨0, by omega, rfl, HN8.out⟩
              case round =>
                clear HN8
                obtain ⟨k, hk, rfl, HW⟩ := hrel
                cases gk with
                | zero =>
                  obtain rfl : k = l.length := by omega
                  go_wp2_with fail
                  go_roundg g1
                  case measure => omega
                  case rel => exact ⟨i + 1, by omega, by go_num, HW.out.ew⟩
                | succ g2 =>
                  have hkl : k < l.length := by omega
                  obtain ⟨bq, oq, rfl, _, hcell⟩ := ints_at HW.out.se hkl
                  have hlv := HLV.out l[k] (List.getElem_mem hkl)
                  have hts := HTJ.out l[k] (List.getElem_mem hkl)
                  generalize l[k] = s at *
                  obtain ⟨sn, rfl⟩ := Int.eq_ofNat_of_zero_le hts.1
                  have hsn : sn < bs.length := by omega
                  clear hts
                  rw [Int.toNat_natCast] at hlv
                  have HLV1 := Lib.hid hlv
                  clear hlv
                  obtain ⟨bi, oi, A2, c2, n2, rfl, hc2i, hH⟩ := HIN.out wr HW.out.ew sn hsn
                  have f0 := HW.out.xc.k0; have f1 := HW.out.xc.k1; have f2 := HW.out.xc.k2; have f3 := HW.out.xc.k3; have f4 := HW.out.xc.k4
                  have hD := HDF.out wr HW.out.xc.ins
                  rw [HBD.out] at hD
                  obtain ⟨b1, hb1⟩ : ∃ z, lvB bs v sn = z := ⟨_, rfl⟩
                  rw [hb1] at hH
                  obtain ⟨b2, hb2⟩ : ∃ z, bDef x v = z := ⟨_, rfl⟩
                  rw [hb2] at hD
                  have HH := Lib.hid hH
                  have HD := Lib.hid hD
                  have HL2 : Hid (b1 = true → b2 = false → lvB bs v i = true) := fun h1 h2 => HLV1.out (by rw [hb1]; exact h1) (by rw [hb2]; exact h2)
                  clear hH hD hb1 hb2
                  cases b1
                  · go_wp2_with (go_at_call 22; go_must (refine (HH.out).mono ?_); rintro e w4 ⟨rfl, rfl⟩)
                    go_roundg g2
                    case measure => omega
                    case rel => exact ⟨k + 1, by omega, by go_num, HW.out⟩
                  · cases b2
                    · have HL3 := Lib.hid (HL2.out rfl rfl)
                      go_wp2_with (first
                        | (go_at_call 12; go_must (refine (HD.out).mono ?_); rintro e w5 ⟨rfl, hb5⟩; have H5 := Lib.hid (HW.out.next hb5); clear hb5; obtain ⟨bi3, oi3, A3, c3, n3, e3, hc3i, hH⟩ := HIN.out w5 H5.out.ew i hlt; injection e3 with e3; injection e3 with e3 e4; subst e3 e4; rw [HL3.out] at hH; have HH3 := Lib.hid hH; clear hH)
                        | (go_at_call 22; with_reducible refine (HH.out).mono ?_; rintro e w4 ⟨rfl, rfl⟩)
                        | (go_at_call 22; with_reducible refine (HH3.out).mono ?_; rintro e w6 ⟨rfl, rfl⟩))
                      go_roundg g2
                      case measure => omega
                      case rel => exact ⟨k + 1, by omega, by go_num, H5.out⟩
                    · go_wp2_with (first
                        | (go_at_call 12; go_must (refine (HD.out).mono ?_); rintro e w5 ⟨rfl, hb5⟩; have H5 := Lib.hid (HW.out.next hb5); clear hb5)
                        | (go_at_call 22; with_reducible refine (HH.out).mono ?_; rintro e w4 ⟨rfl, rfl⟩))
                      go_roundg g2
                      case measure => omega
                      case rel => exact ⟨k + 1, by omega, by go_num, H5.out⟩
    · have hv0 : (v != 0) = true := by simp [hv]
      clear hv
      go_wp2_with fail
      refine C2.out.mono ?_
      rintro e W3 ⟨rfl, hb⟩
      have H3 := Lib.hid (H2.out.next hb)
      clear hb C2 d0 d1 d2
      go_wp2_with fail
      refine (awake23_any _).mono ?_
      rintro e W4 ⟨rfl, hb⟩
      have HB4 := Lib.hid (H3.out.next hb).below
      clear hb H3 H2
      go_wp2_with fail
      go_ret
      exact ⟨rfl, HB4.out⟩

end Go.Proofs.Ytncigbpeempnfaa
