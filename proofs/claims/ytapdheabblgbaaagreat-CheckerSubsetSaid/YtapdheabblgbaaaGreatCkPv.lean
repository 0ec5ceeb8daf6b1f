/-
  The checker of the program: Valid, largestInvariant, Bound.
-/
import Derived.Test.YtapdheabblgbaaaGreatCkVal
import Derived.Test.YtapdheabblgbaaaGreatCkXl
import Derived.Test.YtapdheabblgbaaaGreatSucOwn
import Derived.Test.YtapdheabblgbaaaGreatSrcCheck
import Derived.Test.YtapdheabblgbaaaGreatMacCheck
import Derived.Test.YtapdheabblgbaaaGreatEdInv
import Derived.Deep.RegionHeld3
namespace Go.Proofs.YtapdheabblgbaaaGreat
open Go.RowKit
set_option linter.unusedVariables false
set_option linter.unusedSimpArgs false

set_option maxRecDepth 100000 in
set_option maxHeartbeats 4000000 in
theorem pckvalid_any {A1 : Option Addr} {k1 : Nat} {A2 : Option Addr} {k2 : Nat} {A3 : Option Addr} {k3 : Nat} {c : Ct} (w : World) (h : CeAt w w.heap.size A1 k1 A2 k2 A3 k3 c) (hs : SmC c) (hw : c.Wf) :
    Calls Tryz.prog 11 #[.agg #[.int .i64 c.sa, .int .i64 c.sr, .slice A1 c.bs.length k1, .int .i64 c.ta, .int .i64 c.tr, .int .i64 c.ts, .slice A2 c.ms.length k2, .slice A3 c.inv.length k3]] w fun e w' => e = .returned (.int .i64 (validC c)) ∧ Below w.heap.size w w' := by
  have HK := Lib.hid (CeK.start h)
  have HV : Hid (validC c = if eF c.sa c.sr c.bs ≠ 0 then eF c.sa c.sr c.bs else if eMF c.ta c.tr c.ts c.ms ≠ 0 then eMF c.ta c.tr c.ts c.ms else if c.bs.length ≠ c.ms.length ∨ c.sa ≠ c.ta then 14 else validE c.inv c.bs.length c.sr c.tr c.ts) := rfl
  obtain ⟨⟨s1, s2, s3⟩, ⟨s4, s5, s6, s7⟩, s8, s9⟩ := hs
  have S9 := Lib.hid s9
  have HWI := Lib.hid hw.inv
  clear h hw s9
  go_enter Tryz.func11, Tryz.ntmps11
  go_upto_region 1 with fail
  generalize (w.alloc (.cells #[.int .i64 c.sa, .int .i64 c.sr, .slice A1 c.bs.length k1, .int .i64 c.ta, .int .i64 c.tr, .int .i64 c.ts, .slice A2 c.ms.length k2, .slice A3 c.inv.length k3] 30)) = W0 at *
  have c0 := HK.out.row.cell 0; have c1 := HK.out.row.cell 1; have c2 := HK.out.row.cell 2; have c3 := HK.out.row.cell 3
  have c4 := HK.out.row.cell 4; have c5 := HK.out.row.cell 5; have c6 := HK.out.row.cell 6; have c7 := HK.out.row.cell 7
  simp only [List.getElem?_toArray, List.getElem?_cons_zero, List.getElem?_cons_succ] at c0 c1 c2 c3 c4 c5 c6 c7
  have C1 := Lib.hid (check_any _ A1 c.bs k1 c.sa c.sr W0 HK.out.see.bs HK.out.blw.size (by omega) (by omega))
  generalize eF c.sa c.sr c.bs = e1 at *
  go_wp2_with fail
  refine C1.out.mono ?_
  rintro e W1 ⟨rfl, hb⟩
  have HK1 := Lib.hid (HK.out.next hb)
  clear c0 c1 c2 c3 c4 c5 c6 c7
  clear hb HK C1
  by_cases h1 : e1 = 0
  · have d1 : (e1 != 0) = false := by simp [h1]
    have HV1 : Hid (validC c = if eMF c.ta c.tr c.ts c.ms ≠ 0 then eMF c.ta c.tr c.ts c.ms else if c.bs.length ≠ c.ms.length ∨ c.sa ≠ c.ta then 14 else validE c.inv c.bs.length c.sr c.tr c.ts) := by show _ = _; rw [HV.out, if_neg (by simpa using h1)]
    clear h1 HV
    have c0 := HK1.out.row.cell 0; have c1 := HK1.out.row.cell 1; have c2 := HK1.out.row.cell 2; have c3 := HK1.out.row.cell 3
    have c4 := HK1.out.row.cell 4; have c5 := HK1.out.row.cell 5; have c6 := HK1.out.row.cell 6; have c7 := HK1.out.row.cell 7
    simp only [List.getElem?_toArray, List.getElem?_cons_zero, List.getElem?_cons_succ] at c0 c1 c2 c3 c4 c5 c6 c7
    have C2 := Lib.hid (mcheck_any _ A2 c.ms k2 c.ta c.tr c.ts W1 HK1.out.see.ms HK1.out.blw.size (by omega) (by omega))
    generalize eMF c.ta c.tr c.ts c.ms = e2 at *
    go_wp2_with fail
    refine C2.out.mono ?_
    rintro e W2 ⟨rfl, hb⟩
    have HK2 := Lib.hid (HK1.out.next hb)
    clear c0 c1 c2 c3 c4 c5 c6 c7
    clear hb HK1 C2
    by_cases h2 : e2 = 0
    · have d2 : (e2 != 0) = false := by simp [h2]
      have HV2 : Hid (validC c = if c.bs.length ≠ c.ms.length ∨ c.sa ≠ c.ta then 14 else validE c.inv c.bs.length c.sr c.tr c.ts) := by show _ = _; rw [HV1.out, if_neg (by simpa using h2)]
      clear h2 HV1
      have c0 := HK2.out.row.cell 0; have c1 := HK2.out.row.cell 1; have c2 := HK2.out.row.cell 2; have c3 := HK2.out.row.cell 3
      have c4 := HK2.out.row.cell 4; have c5 := HK2.out.row.cell 5; have c6 := HK2.out.row.cell 6; have c7 := HK2.out.row.cell 7
      simp only [List.getElem?_toArray, List.getElem?_cons_zero, List.getElem?_cons_succ] at c0 c1 c2 c3 c4 c5 c6 c7
      by_cases h3 : c.bs.length = c.ms.length
      · have d3 : ((c.bs.length : Int) != (c.ms.length : Int)) = false := by simp [h3]
        by_cases h4 : c.sa = c.ta
        · have d4 : (c.sa != c.ta) = false := by simp [h4]
          have HV3 : Hid (validC c = validE c.inv c.bs.length c.sr c.tr c.ts) := by show _ = _; rw [HV2.out, if_neg (by simp [h3, h4])]
          clear h3 h4 HV2
          have C3 := Lib.hid (pvalid_any _ A3 c.inv k3 (c.bs.length : Int) c.sr c.tr c.ts W2 HK2.out.see.inv HK2.out.blw.size (by omega) (fun x hx => by have := S9.out x hx; omega) HWI.out)
          go_wp2_with fail
          refine C3.out.mono ?_
          rintro e W3 ⟨rfl, hG⟩
          have HK3 := Lib.hid (HK2.out.next hG)
          clear c0 c1 c2 c3 c4 c5 c6 c7
          clear hG HK2 C3
          go_wp2
          go_ret
          exact ⟨by rw [HV3.out]; rfl, HK3.out.blw⟩
        · have d4 : (c.sa != c.ta) = true := by simp [h4]
          have HV3 : Hid (validC c = 14) := by show _ = _; rw [HV2.out, if_pos (.inr h4)]
          clear h3 h4 HV2
          go_wp2
          go_ret
          exact ⟨by rw [HV3.out]; rfl, HK2.out.blw⟩
      · have d3 : ((c.bs.length : Int) != (c.ms.length : Int)) = true := by simp; omega
        have HV3 : Hid (validC c = 14) := by show _ = _; rw [HV2.out, if_pos (.inl h3)]
        clear h3 HV2
        go_wp2
        go_ret
        exact ⟨by rw [HV3.out]; rfl, HK2.out.blw⟩
    · have d2 : (e2 != 0) = true := by simp [h2]
      have HV2 : Hid (validC c = e2) := by show _ = _; rw [HV1.out, if_pos h2]
      clear h2 HV1
      go_wp2
      go_ret
      exact ⟨by rw [HV2.out]; rfl, HK2.out.blw⟩
  · have d1 : (e1 != 0) = true := by simp [h1]
    have HV1 : Hid (validC c = e1) := by show _ = _; rw [HV.out, if_pos h1]
    clear h1 HV
    go_wp2
    go_ret
    exact ⟨by rw [HV1.out]; rfl, HK1.out.blw⟩

set_option maxRecDepth 100000 in
set_option maxHeartbeats 4000000 in
theorem pcklarge_any {W : World} {B : Nat} {A : Option Addr} {xs : List (List Pr)} {k : Nat} (h : SeesPP W B A xs) (hn : xs.length ≤ 1000) (hl : ∀ x ∈ xs, x.length ≤ 1000) :
    Calls Tryz.prog 31 #[.slice A xs.length k] W fun e w' => e = .returned (.int .i64 (maxI xs : Int)) ∧ W = w' := by
  have HS := Lib.hid h
  have HL := Lib.hid hl
  clear h hl
  obtain ⟨nw, hnw⟩ : ∃ z, z = xs.length := ⟨_, rfl⟩
  rw [← hnw] at hn ⊢
  have HNW := Lib.hid hnw
  clear hnw
  go_enter Tryz.func31, Tryz.ntmps31
  go_wp2
  go_loopg [3, 8] nw (fun g s3 s8 wr => ∃ k : Nat, k + g = nw ∧ s8 = .int .i64 k ∧ s3 = .int .i64 (maxI (xs.take k) : Int) ∧ W = wr)
  case atStart => exact ⟨0, by omega, by go_num, by simp [maxI], rfl⟩
  case round =>
    obtain ⟨q, hg, rfl, rfl, rfl⟩ := hrel
    by_cases hk : q < nw
    · have hkz : (q : Int) < (nw : Int) := by omega
      have hki : q < xs.length := by rw [← HNW.out]; exact hk
      obtain ⟨b, o, Ai, ci, rfl, hb, hc, hci, hcm, hsi⟩ := HS.out.at_ hki
      have hl4 := HL.out _ (List.getElem_mem hki)
      have HMX := Lib.hid (maxI_step xs q hki)
      generalize xs[q].length = li at *
      obtain ⟨mx, hmx⟩ : ∃ z, z = maxI (xs.take q) := ⟨_, rfl⟩
      rw [← hmx] at HMX ⊢
      clear hmx hsi
      by_cases hgt : mx < li
      · have hgz : (mx : Int) < (li : Int) := by omega
        have HM2 : Hid (maxI (xs.take (q + 1)) = li) := by show _ = _; rw [HMX.out]; omega
        go_wp2
        go_roundg (nw - (q + 1))
        case measure => omega
        case rel => exact ⟨q + 1, by omega, by go_num, by rw [HM2.out], rfl⟩
      · have hgz : ¬ (mx : Int) < (li : Int) := by omega
        have HM2 : Hid (maxI (xs.take (q + 1)) = mx) := by show _ = _; rw [HMX.out]; omega
        go_wp2
        go_roundg (nw - (q + 1))
        case measure => omega
        case rel => exact ⟨q + 1, by omega, by go_num, by rw [HM2.out], rfl⟩
    · have hkz : ¬ (q : Int) < (nw : Int) := by omega
      have HMI : Hid (maxI (xs.take q) = maxI xs) := by show _ = _; rw [List.take_of_length_le (by rw [← HNW.out]; omega)]
      rw [HMI.out]
      go_wp2
      go_ret
      exact ⟨rfl, rfl⟩

theorem boundC_eq (c : Ct) (g : Nat) : boundC c g = 3 * (codeN c.bs + mcodeN c.ms + edN c.bs + c.bs.length + 1) * (g + 1) := by rfl

set_option maxRecDepth 100000 in
set_option maxHeartbeats 4000000 in
theorem pbound_any {A1 : Option Addr} {k1 : Nat} {A2 : Option Addr} {k2 : Nat} {A3 : Option Addr} {k3 : Nat} {c : Ct} (w : World) (h : CeAt w w.heap.size A1 k1 A2 k2 A3 k3 c) (hs : SmC c) (hw : c.Wf) (hv : validC c = 0) (g : Nat) (hg : g ≤ 400000) :
    Calls Tryz.prog 17 #[.agg #[.int .i64 c.sa, .int .i64 c.sr, .slice A1 c.bs.length k1, .int .i64 c.ta, .int .i64 c.tr, .int .i64 c.ts, .slice A2 c.ms.length k2, .slice A3 c.inv.length k3], .int .i64 (g : Int)] w fun e w' => e = .returned (.int .i64 (boundC c g : Int)) ∧ Below w.heap.size w w' := by
  have mixed : Tryz.prog.follows .mixedOrders = true := by kernel_rfl
  have HK := Lib.hid (CeK.start h)
  obtain ⟨N, n, m, hfit⟩ := fitC_of hv hs hw
  have hb40 := hfit.b40
  have hc3 := hfit.code
  have hm9 := hfit.mcode
  have HNM := Lib.hid hfit.len
  have he80 := edN_le c.bs
  have HBE : Hid (boundC c g = 3 * (codeN c.bs + mcodeN c.ms + edN c.bs + c.bs.length + 1) * (g + 1)) := boundC_eq c g
  clear h hs hw hv hfit
  go_enter Tryz.func17, Tryz.ntmps17
  go_upto_region 2 with fail
  generalize (w.alloc (.cells #[.int .i64 c.sa, .int .i64 c.sr, .slice A1 c.bs.length k1, .int .i64 c.ta, .int .i64 c.tr, .int .i64 c.ts, .slice A2 c.ms.length k2, .slice A3 c.inv.length k3] 30)) = W0 at *
  have c0 := HK.out.row.cell 0; have c1 := HK.out.row.cell 1; have c2 := HK.out.row.cell 2; have c3 := HK.out.row.cell 3
  have c4 := HK.out.row.cell 4; have c5 := HK.out.row.cell 5; have c6 := HK.out.row.cell 6; have c7 := HK.out.row.cell 7
  simp only [List.getElem?_toArray, List.getElem?_cons_zero, List.getElem?_cons_succ] at c0 c1 c2 c3 c4 c5 c6 c7
  obtain ⟨nb, hnb⟩ : ∃ z, z = c.bs.length := ⟨_, rfl⟩
  rw [← hnb] at c2 hb40 he80
  have HNB := Lib.hid hnb
  clear hnb
  go_wp2
  clear c0 c1 c2 c3 c4 c5 c6 c7
  go_loopg [5, 13] nb (fun g s5 s13 wr => ∃ k : Nat, k + g = nb ∧ s13 = .int .i64 k ∧ s5 = .int .i64 (edN (c.bs.take k) : Int) ∧ Hid (CeK w w.heap.size A1 k1 A2 k2 A3 k3 c wr))
  case atStart => exact ⟨0, by omega, by go_num, by simp [edN], HK.out⟩
  case round =>
    clear HK
    obtain ⟨q, hgq, rfl, rfl, HK⟩ := hrel
    by_cases hk : q < nb
    · have hkz : (q : Int) < (nb : Int) := by omega
      have hki : q < c.bs.length := by rw [← HNB.out]; exact hk
      obtain ⟨b1, o1, rfl, hb1, hB1⟩ := HK.out.see.bs.at_ hki
      obtain ⟨Ac, cc1, hq10, hq1l, hq1m, hq1i⟩ := hB1.code
      have f0 := hq10; have f1 := hB1.t0; have f2 := hB1.t1; have f3 := hB1.t2; have f4 := hB1.t3
      have HES := Lib.hid (edN_step c.bs q hki)
      have HEL := Lib.hid (edN_take c.bs (q + 1))
      have hel := edN_take c.bs q
      have hs2 := succs_len c.bs[q].term
      obtain ⟨ed, hed⟩ : ∃ z, z = edN (c.bs.take q) := ⟨_, rfl⟩
      rw [← hed] at HES hel ⊢
      generalize c.bs[q].term = bt at *
      generalize c.bs[q].code.length = lc at *
      have C1 := Lib.hid fun W => succ_own bt W
      have HBL := Lib.hid HK.out.blw.size
      clear hB1 hq10 hq1l hq1m hq1i hed
      go_upto_region 5 with fail
      have hrow := Row.new wr 48 #[.slice Ac lc cc1, .int .i64 bt.kind, .int .i64 bt.a, .int .i64 bt.to, .int .i64 bt.el]
      have HK1 := Lib.hid (HK.out.alloc (.cells #[.slice Ac lc cc1, .int .i64 bt.kind, .int .i64 bt.a, .int .i64 bt.to, .int .i64 bt.el] 48))
      clear HK f0 f1 f2 f3 f4
      generalize (wr.alloc (.cells #[.slice Ac lc cc1, .int .i64 bt.kind, .int .i64 bt.a, .int .i64 bt.to, .int .i64 bt.el] 48)) = W1 at *
      generalize wr.heap.size = pb at *
      have f0 := hrow.cell 0; have f1 := hrow.cell 1; have f2 := hrow.cell 2; have f3 := hrow.cell 3; have f4 := hrow.cell 4
      simp only [List.getElem?_toArray, List.getElem?_cons_zero, List.getElem?_cons_succ] at f0 f1 f2 f3 f4
      clear hrow
      go_wp2_with fail
      refine (C1.out _).mono ?_
      rintro e W2 ⟨AS, cs, rfl, hcs, hcsm, hse, hb8, how⟩
      have HK2 := Lib.hid (HK1.out.next hb8)
      clear HK1 f0 f1 f2 f3 f4 hse hb8 how C1
      obtain ⟨ns, hns⟩ : ∃ z, z = (succs bt).length := ⟨_, rfl⟩
      rw [← hns] at HES hs2 hcs ⊢
      clear hns
      go_wp2
      go_roundg (nb - (q + 1))
      case measure => omega
      case rel => exact ⟨q + 1, by omega, by go_num, by rw [HES.out]; go_num, HK2.out⟩
    · have hkz : ¬ (q : Int) < (nb : Int) := by omega
      obtain rfl : q = nb := by omega
      have HEE : Hid (edN (c.bs.take q) = edN c.bs) := by show _ = _; rw [List.take_of_length_le (by rw [← HNB.out]; exact Nat.le_refl _)]
      rw [HEE.out]
      clear HEE
      have CA : Hid (∀ V, CeK w w.heap.size A1 k1 A2 k2 A3 k3 c V → Calls Tryz.prog 41 #[.agg #[.int .i64 c.sa, .int .i64 c.sr, .slice A1 c.bs.length k1]] V fun e w' => e = .returned (.int .i64 (codeN c.bs : Int)) ∧ CeK w w.heap.size A1 k1 A2 k2 A3 k3 c w') := fun V hV => (code_any w.heap.size A1 c.bs k1 c.sa c.sr V hV.see.bs hV.blw.size (by rw [← HNB.out]; omega) (by omega)).mono fun e w' ⟨h1, h2⟩ => ⟨h1, hV.next h2⟩
      have CB : Hid (∀ V, CeK w w.heap.size A1 k1 A2 k2 A3 k3 c V → Calls Tryz.prog 42 #[.agg #[.int .i64 c.ta, .int .i64 c.tr, .int .i64 c.ts, .slice A2 c.ms.length k2]] V fun e w' => e = .returned (.int .i64 (mcodeN c.ms : Int)) ∧ CeK w w.heap.size A1 k1 A2 k2 A3 k3 c w') := fun V hV => (mcode_any w.heap.size A2 c.ms k2 c.ta c.tr c.ts V hV.see.ms hV.blw.size (by rw [← HNM.out, ← HNB.out]; omega) (by omega)).mono fun e w' ⟨h1, h2⟩ => ⟨h1, hV.next h2⟩
      have hG := HK.out
      rw [← HNB.out] at CA HBE
      have HCC : Hid (∀ V, CeK w w.heap.size A1 k1 A2 k2 A3 k3 c V → V.cell? ⟨w.heap.size, 0, none⟩ = some (.int .i64 c.sa) ∧ V.cell? ⟨w.heap.size, 1, none⟩ = some (.int .i64 c.sr) ∧ V.cell? ⟨w.heap.size, 2, none⟩ = some (.slice A1 q k1) ∧ V.cell? ⟨w.heap.size, 3, none⟩ = some (.int .i64 c.ta) ∧ V.cell? ⟨w.heap.size, 4, none⟩ = some (.int .i64 c.tr) ∧ V.cell? ⟨w.heap.size, 5, none⟩ = some (.int .i64 c.ts) ∧ V.cell? ⟨w.heap.size, 6, none⟩ = some (.slice A2 c.ms.length k2)) := fun V hV => ⟨hV.row.cell 0, hV.row.cell 1, by rw [HNB.out]; exact hV.row.cell 2, hV.row.cell 3, hV.row.cell 4, hV.row.cell 5, hV.row.cell 6⟩
      generalize codeN c.bs = nc at *
      generalize mcodeN c.ms = nm at *
      generalize edN c.bs = ne at *
      clear HK HNB HNM
      go_upto_region 7 with fail
      go_wp2_with fail
      go_region_held3 (fun V => V.cell? ⟨w.heap.size, 0, none⟩ = some (.int .i64 c.sa) ∧ V.cell? ⟨w.heap.size, 1, none⟩ = some (.int .i64 c.sr) ∧ V.cell? ⟨w.heap.size, 2, none⟩ = some (.slice A1 q k1) ∧ V.cell? ⟨w.heap.size, 3, none⟩ = some (.int .i64 c.ta) ∧ V.cell? ⟨w.heap.size, 4, none⟩ = some (.int .i64 c.tr) ∧ V.cell? ⟨w.heap.size, 5, none⟩ = some (.int .i64 c.ts) ∧ V.cell? ⟨w.heap.size, 6, none⟩ = some (.slice A2 c.ms.length k2)) (first | exact HCC.out _ hG | exact HCC.out _ hG.drew | exact HCC.out _ (hG.drewN _)) (first
        | (go_at_call 41; go_must ((with_reducible refine (CA.out _ (by first | exact hG | exact hG.drew | exact hG.drewN _)).mono ?_); rintro e W3 ⟨rfl, hG⟩))
        | (go_at_call 42; go_must ((with_reducible refine (CB.out _ (by first | exact hG | exact hG.drew | exact hG.drewN _)).mono ?_); rintro e W3 ⟨rfl, hG⟩)))
      all_goals
        have HG := Lib.hid hG
        clear hG CA CB
        have hcl := HCC.out _ HG.out
        obtain ⟨c0, c1, c2, c3, c4, c5, c6⟩ := hcl
        obtain ⟨P, hP⟩ : ∃ z : Nat, z = nc + nm + ne + q + 1 := ⟨_, rfl⟩
        have hPz : ((nc : Int) + (nm : Int)) + (ne : Int) + (q : Int) + 1 = (P : Int) := by omega
        have hp2 : P ≤ 2000 := by omega
        rw [← hP] at HBE
        have hq9 : 3 * P * (g + 1) ≤ 6000 * 400001 := Nat.mul_le_mul (by omega) (by omega)
        obtain ⟨M, hM⟩ : ∃ z : Nat, z = 3 * P * (g + 1) := ⟨_, rfl⟩
        have hMz : 3 * (P : Int) * ((g : Int) + 1) = (M : Int) := by rw [hM]; push_cast; rfl
        rw [← hM] at HBE hq9
        clear hP hM
        go_upto_region 8 with fail
        go_wp2
        go_ret
        exact ⟨by rw [HBE.out]; rfl, HG.out.blw⟩

end Go.Proofs.YtapdheabblgbaaaGreat
