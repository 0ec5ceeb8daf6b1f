/-
  The reference of layer 16: Check (two regions of it are written by wip/lab/genckref.py).
-/
import Derived.Test.YtapdheabblgbaaaGreatCkLp
import Derived.Test.YtapdheabblgbaaaGreatBcRef
import Derived.Test.YtapdheabblgbaaaGreatSucOwn
import Derived.Test.YtapdheabblgbaaaGreatPk3
import Derived.Test.YtapdheabblgbaaaGreatPk1
import Derived.Deep.Cut
import Derived.Deep.CutRange
import Derived.BigRegion
namespace Go.Proofs.YtapdheabblgbaaaGreat
open Go.RowKit
set_option linter.unusedVariables false
set_option linter.unusedSimpArgs false

set_option maxRecDepth 100000 in
set_option maxHeartbeats 16000000 in
theorem rckcheck_any {A1 : Option Addr} {k1 : Nat} {A2 : Option Addr} {k2 : Nat} {A3 : Option Addr} {k3 : Nat} {c : Ct} (w : World) (h : CeAt w w.heap.size A1 k1 A2 k2 A3 k3 c) (hs : SmC c) (hw : c.Wf) :
    Calls Tryz.prog 14 #[.agg #[.int .i64 c.sa, .int .i64 c.sr, .slice A1 c.bs.length k1, .int .i64 c.ta, .int .i64 c.tr, .int .i64 c.ts, .slice A2 c.ms.length k2, .slice A3 c.inv.length k3]] w (RpP w (checkC c)) := by
  have mixed : Tryz.prog.follows .mixedOrders = true := by kernel_rfl
  have HSM := Lib.hid hs
  have HWF := Lib.hid hw
  have HR0 : Hid (CR w A1 k1 A2 k2 A3 k3 c ⟨0, 0, 0, 0, 0, 0, 0⟩ (((w.alloc (.cells #[.int .i64 c.sa, .int .i64 c.sr, .slice A1 c.bs.length k1, .int .i64 c.ta, .int .i64 c.tr, .int .i64 c.ts, .slice A2 c.ms.length k2, .slice A3 c.inv.length k3] 30)).alloc (.cells #[.int .i64 0, .int .i64 0, .int .i64 0, .int .i64 0, .int .i64 0, .int .i64 0, .int .i64 0] 37)).alloc (.cells #[.int .i64 0, .int .i64 0, .int .i64 0, .int .i64 0, .int .i64 0, .int .i64 0, .int .i64 0] 37))) := by
    have hb1 := (Below.refl w.heap.size w).alloc (Nat.le_refl _) (.cells #[.int .i64 c.sa, .int .i64 c.sr, .slice A1 c.bs.length k1, .int .i64 c.ta, .int .i64 c.tr, .int .i64 c.ts, .slice A2 c.ms.length k2, .slice A3 c.inv.length k3] 30)
    have hb2 := (hb1.alloc hb1.size (.cells #[.int .i64 0, .int .i64 0, .int .i64 0, .int .i64 0, .int .i64 0, .int .i64 0, .int .i64 0] 37))
    have hb3 := (hb2.alloc hb2.size (.cells #[.int .i64 0, .int .i64 0, .int .i64 0, .int .i64 0, .int .i64 0, .int .i64 0, .int .i64 0] 37))
    have q1 := ((Row.new w 30 #[.int .i64 c.sa, .int .i64 c.sr, .slice A1 c.bs.length k1, .int .i64 c.ta, .int .i64 c.tr, .int .i64 c.ts, .slice A2 c.ms.length k2, .slice A3 c.inv.length k3]).alloc (.cells #[.int .i64 0, .int .i64 0, .int .i64 0, .int .i64 0, .int .i64 0, .int .i64 0, .int .i64 0] 37)).alloc (.cells #[.int .i64 0, .int .i64 0, .int .i64 0, .int .i64 0, .int .i64 0, .int .i64 0, .int .i64 0] 37)
    have q2 := (Row.new (w.alloc (.cells #[.int .i64 c.sa, .int .i64 c.sr, .slice A1 c.bs.length k1, .int .i64 c.ta, .int .i64 c.tr, .int .i64 c.ts, .slice A2 c.ms.length k2, .slice A3 c.inv.length k3] 30)) 37 #[.int .i64 0, .int .i64 0, .int .i64 0, .int .i64 0, .int .i64 0, .int .i64 0, .int .i64 0]).alloc (.cells #[.int .i64 0, .int .i64 0, .int .i64 0, .int .i64 0, .int .i64 0, .int .i64 0, .int .i64 0] 37)
    have q3 := Row.new ((w.alloc (.cells #[.int .i64 c.sa, .int .i64 c.sr, .slice A1 c.bs.length k1, .int .i64 c.ta, .int .i64 c.tr, .int .i64 c.ts, .slice A2 c.ms.length k2, .slice A3 c.inv.length k3] 30)).alloc (.cells #[.int .i64 0, .int .i64 0, .int .i64 0, .int .i64 0, .int .i64 0, .int .i64 0, .int .i64 0] 37)) 37 #[.int .i64 0, .int .i64 0, .int .i64 0, .int .i64 0, .int .i64 0, .int .i64 0, .int .i64 0]
    simp only [World.size_alloc] at q2 q3
    exact ⟨hb3, q1, h.below hb3, q2, q3⟩
  clear h hs hw
  go_enter Tryz.func14, Tryz.ntmps14
  go_upto_region 2 with fail
  generalize (((w.alloc (.cells #[.int .i64 c.sa, .int .i64 c.sr, .slice A1 c.bs.length k1, .int .i64 c.ta, .int .i64 c.tr, .int .i64 c.ts, .slice A2 c.ms.length k2, .slice A3 c.inv.length k3] 30)).alloc (.cells #[.int .i64 0, .int .i64 0, .int .i64 0, .int .i64 0, .int .i64 0, .int .i64 0, .int .i64 0] 37)).alloc (.cells #[.int .i64 0, .int .i64 0, .int .i64 0, .int .i64 0, .int .i64 0, .int .i64 0, .int .i64 0] 37)) = W0 at *
  have c0 := HR0.out.row.cell 0; have c1 := HR0.out.row.cell 1; have c2 := HR0.out.row.cell 2; have c3 := HR0.out.row.cell 3
  have c4 := HR0.out.row.cell 4; have c5 := HR0.out.row.cell 5; have c6 := HR0.out.row.cell 6; have c7 := HR0.out.row.cell 7
  simp only [List.getElem?_toArray, List.getElem?_cons_zero, List.getElem?_cons_succ] at c0 c1 c2 c3 c4 c5 c6 c7
  have C1 := Lib.hid (rckvalid_any W0 (HR0.out.see.more HR0.out.blw.size) HSM.out HWF.out)
  go_wp2_with fail
  refine C1.out.mono ?_
  rintro e W1 ⟨rfl, hb⟩
  have HR1 := Lib.hid (HR0.out.next hb)
  clear c0 c1 c2 c3 c4 c5 c6 c7
  clear hb HR0 C1
  obtain ⟨ev, hev⟩ : ∃ z, z = validC c := ⟨_, rfl⟩
  rw [← hev]
  have HEV := Lib.hid hev
  clear hev
  by_cases h0 : ev = 0
  · have d0 : (ev != 0) = false := by simp [h0]
    obtain ⟨N, n, m, hfit⟩ := fitC_of (HEV.out.symm.trans h0) HSM.out HWF.out
    have HFT := Lib.hid hfit
    have HCC : Hid (checkC c = if entP (c.i 0) c.sa = none then blksR c c.bs.length 0 (rep0 c) else ⟨23, 0, 0, 0, 0, 1 + (c.i 0).length, maxI c.inv⟩) := by
      show _ = _
      unfold checkC
      rw [if_neg (by rw [← HEV.out]; simpa using h0)]
    have hin := hfit.ilen
    have hb40 := hfit.b40
    have hpos := hfit.pos
    clear hfit h0 HEV
    obtain ⟨nw, hnw⟩ : ∃ z, z = c.inv.length := ⟨_, rfl⟩
    have hnw40 : nw ≤ 40 := by omega
    have hnw0 : 0 < nw := by omega
    have HNW := Lib.hid hnw
    have HNB : Hid (c.bs.length = nw) := by show _ = _; omega
    clear hnw hin hb40 hpos
    have HL40 : Hid (∀ l ∈ c.inv, l.length ≤ 400) := fun l hl => (HFT.out.inv l hl).2.1
    go_upto_region 6 with fail
    go_wp2
    go_loopg [5] nw (fun g v5 wr => ∃ k : Nat, k + g = nw ∧ v5 = .int .i64 k ∧ Hid (CR w A1 k1 A2 k2 A3 k3 c ⟨0, 0, 0, 0, 0, 0, maxI (c.inv.take k)⟩ wr))
    case atStart => exact ⟨0, by omega, by go_num, HR1.out⟩
    case round =>
      clear HR1
      obtain ⟨k, hg, rfl, HR⟩ := hrel
      have c0 := HR.out.row.cell 0; have c1 := HR.out.row.cell 1; have c2 := HR.out.row.cell 2; have c3 := HR.out.row.cell 3
      have c4 := HR.out.row.cell 4; have c5 := HR.out.row.cell 5; have c6 := HR.out.row.cell 6; have c7 := HR.out.row.cell 7
      simp only [List.getElem?_toArray, List.getElem?_cons_zero, List.getElem?_cons_succ] at c0 c1 c2 c3 c4 c5 c6 c7
      rw [← HNW.out] at c7
      by_cases hk : k < nw
      · have hkz : (k : Int) < (nw : Int) := by omega
        have hki : k < c.inv.length := by rw [← HNW.out]; exact hk
        obtain ⟨b, o, Ai, ci, rfl, hb, hc, hci, hcm, hsi⟩ := HR.out.see.inv.at_ hki
        have hl4 := HL40.out _ (List.getElem_mem hki)
        have HMX := Lib.hid (maxI_step c.inv k hki)
        generalize c.inv[k].length = li at *
        obtain ⟨mx, hmx⟩ : ∃ z, z = maxI (c.inv.take k) := ⟨_, rfl⟩
        rw [← hmx] at HR HMX
        clear hmx hsi
        have r0 := HR.out.rr.cell 0; have r1 := HR.out.rr.cell 1; have r2 := HR.out.rr.cell 2; have r3 := HR.out.rr.cell 3
        have r4 := HR.out.rr.cell 4; have r5 := HR.out.rr.cell 5; have r6 := HR.out.rr.cell 6
        have rf := fun k => HR.out.rr.frozen k
        simp only [List.getElem?_toArray, List.getElem?_cons_zero, List.getElem?_cons_succ] at r0 r1 r2 r3 r4 r5 r6
        have rf0 := rf 0; have rf1 := rf 1; have rf2 := rf 2; have rf3 := rf 3; have rf4 := rf 4; have rf5 := rf 5; have rf6 := rf 6
        clear rf
        go_upto_region 9 with fail
        go_quiet (fail)
        have HRA := Lib.hid (HR.out.drewN nq)
        have hc2 : (wr.drewN nq).cell? ⟨b, o + k, none⟩ = some (.slice Ai li ci) := hc
        generalize wr.drewN nq = W2 at *
        clear c0 c1 c2 c3 c4 c5 c6 c7
        clear r0 r1 r2 r3 r4 r5 r6 rf0 rf1 rf2 rf3 rf4 rf5 rf6
        clear hc HR
        by_cases hgt : mx < li
        · have hgz : (mx : Int) < (li : Int) := by omega
          have HM2 : Hid (maxI (c.inv.take (k + 1)) = li) := by show _ = _; rw [HMX.out]; omega
          have c0 := HRA.out.row.cell 0; have c1 := HRA.out.row.cell 1; have c2 := HRA.out.row.cell 2; have c3 := HRA.out.row.cell 3
          have c4 := HRA.out.row.cell 4; have c5 := HRA.out.row.cell 5; have c6 := HRA.out.row.cell 6; have c7 := HRA.out.row.cell 7
          simp only [List.getElem?_toArray, List.getElem?_cons_zero, List.getElem?_cons_succ] at c0 c1 c2 c3 c4 c5 c6 c7
          have r0 := HRA.out.rr.cell 0; have r1 := HRA.out.rr.cell 1; have r2 := HRA.out.rr.cell 2; have r3 := HRA.out.rr.cell 3
          have r4 := HRA.out.rr.cell 4; have r5 := HRA.out.rr.cell 5; have r6 := HRA.out.rr.cell 6
          have rf := fun k => HRA.out.rr.frozen k
          simp only [List.getElem?_toArray, List.getElem?_cons_zero, List.getElem?_cons_succ] at r0 r1 r2 r3 r4 r5 r6
          have rf0 := rf 0; have rf1 := rf 1; have rf2 := rf 2; have rf3 := rf 3; have rf4 := rf 4; have rf5 := rf 5; have rf6 := rf 6
          clear rf
          rw [← HNW.out] at c7
          go_wp2
          go_roundg (nw - (k + 1))
          case measure => omega
          case rel => exact ⟨k + 1, by omega, by go_num, by show CR _ _ _ _ _ _ _ _ _ _; rw [HM2.out]; exact HRA.out.put _ 6 _ rfl⟩
        · have hgz : ¬ (mx : Int) < (li : Int) := by omega
          have HM2 : Hid (maxI (c.inv.take (k + 1)) = mx) := by show _ = _; rw [HMX.out]; omega
          go_wp2
          go_roundg (nw - (k + 1))
          case measure => omega
          case rel => exact ⟨k + 1, by omega, by go_num, by show CR _ _ _ _ _ _ _ _ _ _; rw [HM2.out]; exact HRA.out⟩
      · have hkz : ¬ (k : Int) < (nw : Int) := by omega
        obtain rfl : k = nw := by omega
        have HMI : Hid (maxI (c.inv.take k) = maxI c.inv) := by show _ = _; rw [List.take_of_length_le (by rw [← HNW.out]; exact Nat.le_refl _)]
        obtain ⟨mx, hmx⟩ : ∃ z, z = maxI c.inv := ⟨_, rfl⟩
        rw [HMI.out, ← hmx] at HR
        have HMX := Lib.hid hmx
        clear hmx HMI hk
        have h0i : 0 < c.inv.length := by rw [← HNW.out]; exact hnw0
        obtain ⟨b, o, Ai, ci, rfl, hb, hc, hci, hcm, hsi⟩ := HR.out.see.inv.at_ h0i
        rw [Nat.add_zero] at hc
        have HI0 : Hid (c.i 0 = c.inv[0]) := Ct.i_lt h0i
        have hl4 := HL40.out _ (List.getElem_mem h0i)
        have HW0 := Lib.hid (HWF.out.inv _ (List.getElem_mem h0i))
        have HV0 := Lib.hid ((HFT.out.inv _ (List.getElem_mem h0i)).2.2.1)
        obtain ⟨ls, hls⟩ : ∃ z, z = c.inv[0] := ⟨_, rfl⟩
        rw [← hls] at HI0 hl4 HW0 HV0 hc hci hsi
        obtain ⟨l0, hl0⟩ : ∃ z, z = ls.length := ⟨_, rfl⟩
        rw [← hl0] at hl4 hc hci
        have HL0 := Lib.hid hl0
        have HSI := Lib.hid hsi
        have HC0 := Lib.hid hc
        clear hls hl0 hsi
        have hnz : (0 : Int) < (k : Int) := by omega
        have r0 := HR.out.rr.cell 0; have r1 := HR.out.rr.cell 1; have r2 := HR.out.rr.cell 2; have r3 := HR.out.rr.cell 3
        have r4 := HR.out.rr.cell 4; have r5 := HR.out.rr.cell 5; have r6 := HR.out.rr.cell 6
        have rf := fun k => HR.out.rr.frozen k
        simp only [List.getElem?_toArray, List.getElem?_cons_zero, List.getElem?_cons_succ] at r0 r1 r2 r3 r4 r5 r6
        have rf0 := rf 0; have rf1 := rf 1; have rf2 := rf 2; have rf3 := rf 3; have rf4 := rf 4; have rf5 := rf 5; have rf6 := rf 6
        clear rf
        go_upto_region 12 with fail
        clear r0 r1 r2 r3 r4 r5 r6 rf0 rf1 rf2 rf3 rf4 rf5 rf6
        have HR2 := Lib.hid (HR.out.put ⟨0, 0, 0, 0, 0, 1 + l0, mx⟩ 5 (.int .i64 (1 + (l0 : Int))) (by simp))
        have hc2 := (((Below.refl w.heap.size wr).setCell (p := ⟨w.heap.size + 1 + 1, 5, none⟩) (by show _ ≤ w.heap.size + 1 + 1; omega) (.int .i64 (1 + (l0 : Int)))).cell (p := ⟨b, o, none⟩) hb).trans hc
        have hsi2 := HSI.out.below ((Below.refl w.heap.size wr).setCell (p := ⟨w.heap.size + 1 + 1, 5, none⟩) (by show _ ≤ w.heap.size + 1 + 1; omega) (.int .i64 (1 + (l0 : Int))))
        clear hc HC0 HSI HR
        clear c0 c1 c2 c3 c4 c5 c6 c7
        generalize (wr.setCell ⟨w.heap.size + 1 + 1, 5, none⟩ (.int .i64 (1 + (l0 : Int)))) = W3 at *
        have HC0 := Lib.hid hc2
        have HSI := Lib.hid hsi2
        clear hc2 hsi2
        go_wp2
        go_loopg [6] l0 (fun g v6 wr => ∃ j : Nat, j + g = l0 ∧ v6 = .int .i64 j ∧ Hid (CR w A1 k1 A2 k2 (some ⟨b, o, none⟩) k3 c ⟨0, 0, 0, 0, 0, 1 + l0, mx⟩ wr) ∧ Hid (Grew W3 wr) ∧ Hid (∀ x ∈ ls.take j, initP x c.sa = true))
        case atStart => exact ⟨0, by omega, by go_num, HR2.out, Grew.refl _, fun x hx => by simp at hx⟩
        case round =>
          clear HR2
          obtain ⟨j, hgj, rfl, HR, HG, HT⟩ := hrel
          have c0 := HR.out.row.cell 0; have c1 := HR.out.row.cell 1; have c2 := HR.out.row.cell 2; have c3 := HR.out.row.cell 3
          have c4 := HR.out.row.cell 4; have c5 := HR.out.row.cell 5; have c6 := HR.out.row.cell 6; have c7 := HR.out.row.cell 7
          simp only [List.getElem?_toArray, List.getElem?_cons_zero, List.getElem?_cons_succ] at c0 c1 c2 c3 c4 c5 c6 c7
          rw [← HNW.out] at c7
          have hc := HG.out.cell HC0.out
          by_cases hj : j < l0
          · have hjz : (j : Int) < (l0 : Int) := by omega
            have hjl : j < ls.length := by rw [← HL0.out]; exact hj
            obtain ⟨b2, o2, rfl, hb2, hp0, hp1⟩ := sees_pair HSI.out hjl
            have f0 := HG.out.cell hp0
            have f1 := HG.out.cell hp1
            obtain ⟨hw1, hw2⟩ := HW0.out _ (List.getElem_mem hjl)
            have hw2 := i64_of_wf hw2
            obtain ⟨⟨hv1, hv2⟩, hv3⟩ := HV0.out _ (List.getElem_mem hjl)
            have hv4 := locS_nn hv3
            have HN : Hid (initP ls[j] c.sa = false → entP ls c.sa = some ls[j]) := fun h => entP_take hjl HT.out h
            have HY : Hid (initP ls[j] c.sa = true → ∀ x ∈ ls.take (j + 1), initP x c.sa = true) := fun h x hx => ((mem_take_succ hjl).1 hx).elim (HT.out x) fun e => by subst e; exact h
            have C2 : Hid (∀ (W : World) n os, Calls Tryz.prog 36 #[.agg #[.int .i64 ls[j].1, .int .i64 ls[j].2], .int .i64 c.sa] (Go.Sort.grow (W.drewN n) os) fun e w' => e = .returned (.bool (initP ls[j] c.sa)) ∧ ∃ q os', w' = Go.Sort.grow ((Go.Sort.grow (W.drewN n) os).drewN q) os') := fun W n os => rinit_any ls[j].1 ls[j].2 c.sa _ hv1 hv4 (by omega)
            generalize ls[j] = x at *
            obtain ⟨x1, x2⟩ := x
            dsimp only at f0 f1 C2
            generalize initP (x1, x2) c.sa = bb at *
            clear hp0 hp1 hw1 hw2 hv1 hv2 hv3 hv4 HT
            have g0 := fun n os => Go.cell_grown (World.block_lt_of_cell? _ _ c0) c0 n os
            have g7 := fun n os => Go.cell_grown (World.block_lt_of_cell? _ _ c7) c7 n os
            have gc := fun n os => Go.cell_grown (World.block_lt_of_cell? _ _ hc) hc n os
            have gf0 := fun n os => Go.cell_grown (World.block_lt_of_cell? _ _ f0) f0 n os
            have gf1 := fun n os => Go.cell_grown (World.block_lt_of_cell? _ _ f1) f1 n os
            go_upto_region 15 with fail
            go_quiet_grown (first | (go_at_call 36; refine Calls.grown_of (C2.out _ _ _)))
            have HG2 : Hid (Grew wr (Go.Sort.grow (wr.drewN nq) osq)) := ⟨nq, osq, rfl⟩
            generalize Go.Sort.grow (wr.drewN nq) osq = W4 at *
            have HR4 := Lib.hid (HR.out.next HG2.out.below)
            have HG4 := Lib.hid (HG.out.trans HG2.out)
            clear HR HG HG2 C2 f0 f1 hc g0 g7 gc gf0 gf1
            clear c0 c1 c2 c3 c4 c5 c6 c7
            cases bb
            · have HE := Lib.hid (HN.out rfl)
              have HCR : Hid (checkC c = ⟨23, 0, 0, 0, 0, 1 + l0, mx⟩) := by
                show _ = _
                rw [HCC.out, if_neg (by rw [HI0.out, HE.out]; simp), HI0.out, ← HL0.out, ← HMX.out]
              have r0 := HR4.out.rr.cell 0; have r1 := HR4.out.rr.cell 1; have r2 := HR4.out.rr.cell 2; have r3 := HR4.out.rr.cell 3
              have r4 := HR4.out.rr.cell 4; have r5 := HR4.out.rr.cell 5; have r6 := HR4.out.rr.cell 6
              have rf := fun k => HR4.out.rr.frozen k
              simp only [List.getElem?_toArray, List.getElem?_cons_zero, List.getElem?_cons_succ] at r0 r1 r2 r3 r4 r5 r6
              have rf0 := rf 0; have rf1 := rf 1; have rf2 := rf 2; have rf3 := rf 3; have rf4 := rf 4; have rf5 := rf 5; have rf6 := rf 6
              clear rf
              have z0 := HR4.out.z.cell 0; have z1 := HR4.out.z.cell 1; have z2 := HR4.out.z.cell 2; have z3 := HR4.out.z.cell 3
              have z4 := HR4.out.z.cell 4; have z5 := HR4.out.z.cell 5; have z6 := HR4.out.z.cell 6
              have zf := fun k => HR4.out.z.frozen k
              simp only [List.getElem?_toArray, List.getElem?_cons_zero, List.getElem?_cons_succ] at z0 z1 z2 z3 z4 z5 z6
              have zf0 := zf 0; have zf1 := zf 1; have zf2 := zf 2; have zf3 := zf 3; have zf4 := zf 4; have zf5 := zf 5; have zf6 := zf 6
              clear zf
              go_wp2
              have HF := HR4.out.put ⟨23, 0, 0, 0, 0, 1 + l0, mx⟩ 0 (.int .i64 23) rfl
              (try simp only [Exit.inBlock, Exit.then])
              refine bodyPost_ret (v := .agg #[.int .i64 (⟨23, 0, 0, 0, 0, 1 + l0, mx⟩ : Rp).err, .int .i64 ((⟨23, 0, 0, 0, 0, 1 + l0, mx⟩ : Rp).blk : Int), .int .i64 ((⟨23, 0, 0, 0, 0, 1 + l0, mx⟩ : Rp).at_ : Int), .int .i64 ((⟨23, 0, 0, 0, 0, 1 + l0, mx⟩ : Rp).blocks : Int), .int .i64 ((⟨23, 0, 0, 0, 0, 1 + l0, mx⟩ : Rp).edges : Int), .int .i64 ((⟨23, 0, 0, 0, 0, 1 + l0, mx⟩ : Rp).steps : Int), .int .i64 ((⟨23, 0, 0, 0, 0, 1 + l0, mx⟩ : Rp).largest : Int)]) ?_ rfl ⟨?_, ?_⟩
              · exact results_cell_row rfl _ _ (w.heap.size + 1) 37 #[.int .i64 (⟨23, 0, 0, 0, 0, 1 + l0, mx⟩ : Rp).err, .int .i64 ((⟨23, 0, 0, 0, 0, 1 + l0, mx⟩ : Rp).blk : Int), .int .i64 ((⟨23, 0, 0, 0, 0, 1 + l0, mx⟩ : Rp).at_ : Int), .int .i64 ((⟨23, 0, 0, 0, 0, 1 + l0, mx⟩ : Rp).blocks : Int), .int .i64 ((⟨23, 0, 0, 0, 0, 1 + l0, mx⟩ : Rp).edges : Int), .int .i64 ((⟨23, 0, 0, 0, 0, 1 + l0, mx⟩ : Rp).steps : Int), .int .i64 ((⟨23, 0, 0, 0, 0, 1 + l0, mx⟩ : Rp).largest : Int)] (0, 0) _ rfl (HF.z.put7 _ _ _ _ _ _ _) Tryz.underlying37 rfl (by kernel_rfl)
              · rw [HCR.out]
              · exact blw7 (by omega) HF.blw _ _ _ _ _ _ _
            · have HT2 := Lib.hid (HY.out rfl)
              go_wp2
              go_roundg (l0 - (j + 1))
              case measure => omega
              case rel => exact ⟨j + 1, by omega, by go_num, HR4.out, HG4.out, HT2.out⟩
          · have hjz : ¬ (j : Int) < (l0 : Int) := by omega
            have HCR : Hid (checkC c = blksR c c.bs.length 0 (rep0 c)) := by
              show _ = _
              rw [HCC.out, if_pos ?_]
              rw [HI0.out]
              refine entP_none.2 ?_
              have := HT.out
              rw [List.take_of_length_le (by rw [← HL0.out]; omega)] at this
              exact this
            have HRZ : Hid (rep0 c = ⟨0, 0, 0, 0, 0, 1 + l0, mx⟩) := by show _ = _; unfold rep0; rw [HI0.out, ← HL0.out, ← HMX.out]
            have HLB : Hid (LpB c 0 (rep0 c)) := LpB.start HFT.out
            rw [HRZ.out] at HLB
            clear HG HT HCC HC0 HSI HL0 HMX HI0 HW0 HV0 hj HRZ
            clear hci hcm
            go_wp2
            clear c0 c1 c2 c3 c4 c5 c6 c7
            clear hc hb hl4
            have HNM : Hid (c.ms.length = k) := by show _ = _; rw [← HFT.out.len, HNB.out]
            go_loopg [7] k (fun g v7 wr => ∃ (i : Nat) (r : Rp), i + g = k ∧ v7 = .int .i64 i ∧ Hid (LpB c i r) ∧ Hid (CR w A1 k1 A2 k2 (some ⟨b, o, none⟩) k3 c r wr))
            case atStart => exact ⟨0, _, by omega, by go_num, HLB.out, HR.out⟩
            case round =>
              clear HLB HR
              obtain ⟨i, r, hgi, rfl, HLB, HR⟩ := hrel
              by_cases hi : i < k
              · have hiz : (i : Int) < (k : Int) := by omega
                have hib : i < c.bs.length := by rw [HNB.out]; exact hi
                have him : i < c.ms.length := by rw [HNM.out]; exact hi
                have hii : i < c.inv.length := by rw [← HNW.out]; exact hi
                obtain ⟨b1, o1, rfl, hb1, hB1⟩ := HR.out.see.bs.at_ hib
                obtain ⟨b2, o2, rfl, hb2, hB2⟩ := HR.out.see.ms.at_ him
                obtain ⟨b3, o3, Ai, ci, e3, hb3, hc3, hci3, hcm3, hs3⟩ := HR.out.see.inv.at_ hii
                injection e3 with e3
                injection e3 with e3 e4
                subst e3 e4
                obtain ⟨Ac, cc1, hq10, hq1l, hq1m, hq1i⟩ := hB1.code
                obtain ⟨Am, cm1, hq20, hq2l, hq2m, hq2i⟩ := hB2.code
                obtain ⟨X, hX⟩ : ∃ z, z = ckB c i := ⟨_, rfl⟩
                have hXE : X = checkE c.bs[i].code c.ms[i].code c.bs[i].term c.ms[i].term (tmP c.bs[i].term c.ms[i].term) c.inv[i] 1048576 := by rw [hX]; unfold ckB; rw [blkAt_lt hib, mblkAt_lt him, Ct.i_lt hii]
                have hops : ∀ rows, Chn c.bs[i].code c.ms[i].code 0 0 rows → ∀ e ∈ blkOps c.bs[i].code c.ms[i].code rows c.bs[i].term c.ms[i].term, e.In rg60 lc120 := by
                  have := HFT.out.ops hib
                  rw [blkAt_lt hib, mblkAt_lt him] at this
                  exact this
                obtain ⟨hv1, hv2, hv3, hv4⟩ := HFT.out.inv _ (List.getElem_mem hii)
                have hl1 : c.bs[i].code.length ≤ 300 := Nat.le_trans (codeN_mem c.bs i hib) HFT.out.code
                have hl2 : c.ms[i].code.length ≤ 900 := Nat.le_trans (mcodeN_mem c.ms i him) HFT.out.mcode
                have C21 : Hid (∀ V, Below wr.heap.size wr V → Calls Tryz.prog 18 #[.agg #[.slice Ac c.bs[i].code.length cc1, .int .i64 c.bs[i].term.kind, .int .i64 c.bs[i].term.a, .int .i64 c.bs[i].term.to, .int .i64 c.bs[i].term.el], .agg #[.slice Am c.ms[i].code.length cm1, .int .i64 c.ms[i].term.kind, .int .i64 c.ms[i].term.a, .int .i64 c.ms[i].term.to, .int .i64 c.ms[i].term.el], .slice Ai c.inv[i].length ci, .int .i64 1048576] V fun x w' => ∃ A' c', x = .returned (.agg #[.slice A' X.out.length c', .int .i64 X.err, .int .i64 (X.at_ : Int), .int .i64 (X.steps : Int), .int .i64 (X.largest : Int)]) ∧ PL V (.slice A' X.out.length c') X.out w') := fun V hV => by
                  rw [hXE]
                  have hz := Nat.le_trans HR.out.blw.size hV.size
                  have hV' := hV.mono HR.out.blw.size
                  exact rblk_any ⟨rfl, hq1l, hq1m, (hq1i.below hV').more hz⟩ ⟨rfl, hq2l, hq2m, (hq2i.below hV').more hz⟩ ((hs3.below hV').more hz) hv1 hv4 room120 (by omega) (by omega) (by omega) hops (HFT.out.ft.ins _ (List.getElem_mem him)) (by have := HFT.out.hn; omega) ((HFT.out.ft.tm _ (List.getElem_mem him)).mono (by have := HFT.out.b40; have := HFT.out.len; omega))
                have F10 := Lib.hid hq10; have F11 := Lib.hid hB1.t0; have F12 := Lib.hid hB1.t1; have F13 := Lib.hid hB1.t2; have F14 := Lib.hid hB1.t3
                have F20 := Lib.hid hq20; have F21 := Lib.hid hB2.t0; have F22 := Lib.hid hB2.t1; have F23 := Lib.hid hB2.t2; have F24 := Lib.hid hB2.t3
                have F3 := Lib.hid hc3
                have HSU : Hid (succs (blkAt c.bs i).term = succs c.bs[i].term) := by show _ = _; rw [blkAt_lt hib]
                clear hq10 hq1l hq1m hq1i hq20 hq2l hq2m hq2i hB1 hB2 hc3 hci3 hcm3 hs3 hXE hops hv1 hv2 hv3 hv4
                have HX := Lib.hid hX
                clear hX
                generalize c.bs[i].term = bt at *
                generalize c.ms[i].term = mt at *
                generalize c.bs[i].code.length = lc at *
                generalize c.ms[i].code.length = lm at *
                generalize c.inv[i].length = li at *
                have c0 := HR.out.row.cell 0; have c1 := HR.out.row.cell 1; have c2 := HR.out.row.cell 2; have c3 := HR.out.row.cell 3
                have c4 := HR.out.row.cell 4; have c5 := HR.out.row.cell 5; have c6 := HR.out.row.cell 6; have c7 := HR.out.row.cell 7
                simp only [List.getElem?_toArray, List.getElem?_cons_zero, List.getElem?_cons_succ] at c0 c1 c2 c3 c4 c5 c6 c7
                rw [← HNW.out] at c7
                rw [HNB.out] at c2
                rw [HNM.out] at c6
                go_upto_region 21 with fail
                clear c0 c1 c2 c3 c4 c5 c6 c7
                have HS21 : Hid (∀ V, CR w (some ⟨b1, o1, none⟩) k1 (some ⟨b2, o2, none⟩) k2 (some ⟨b, o, none⟩) k3 c r V → Below w.heap.size wr V → (V.cell? ⟨w.heap.size, 2, none⟩ = some (.slice (some ⟨b1, o1, none⟩) k k1) ∧ V.cell? ⟨w.heap.size, 6, none⟩ = some (.slice (some ⟨b2, o2, none⟩) k k2) ∧ V.cell? ⟨w.heap.size, 7, none⟩ = some (.slice (some ⟨b, o, none⟩) k k3)) ∧ (V.cell? ⟨b1, o1 + i * 5, none⟩ = some (.slice Ac lc cc1) ∧ V.cell? ⟨b1, o1 + i * 5 + 1, none⟩ = some (.int .i64 bt.kind) ∧ V.cell? ⟨b1, o1 + i * 5 + 2, none⟩ = some (.int .i64 bt.a) ∧ V.cell? ⟨b1, o1 + i * 5 + 3, none⟩ = some (.int .i64 bt.to) ∧ V.cell? ⟨b1, o1 + i * 5 + 4, none⟩ = some (.int .i64 bt.el)) ∧ (V.cell? ⟨b2, o2 + i * 5, none⟩ = some (.slice Am lm cm1) ∧ V.cell? ⟨b2, o2 + i * 5 + 1, none⟩ = some (.int .i64 mt.kind) ∧ V.cell? ⟨b2, o2 + i * 5 + 2, none⟩ = some (.int .i64 mt.a) ∧ V.cell? ⟨b2, o2 + i * 5 + 3, none⟩ = some (.int .i64 mt.to) ∧ V.cell? ⟨b2, o2 + i * 5 + 4, none⟩ = some (.int .i64 mt.el)) ∧ V.cell? ⟨b, o + i, none⟩ = some (.slice Ai li ci)) := fun V h hbV =>
                  ⟨⟨(h.row.cell 2).trans (by rw [← HNB.out]; rfl), (h.row.cell 6).trans (by rw [← HNM.out]; rfl), (h.row.cell 7).trans (by rw [HNW.out]; rfl)⟩, ⟨(hbV.cell hb1).trans F10.out, (hbV.cell hb1).trans F11.out, (hbV.cell hb1).trans F12.out, (hbV.cell hb1).trans F13.out, (hbV.cell hb1).trans F14.out⟩, ⟨(hbV.cell hb2).trans F20.out, (hbV.cell hb2).trans F21.out, (hbV.cell hb2).trans F22.out, (hbV.cell hb2).trans F23.out, (hbV.cell hb2).trans F24.out⟩, (hbV.cell hb3).trans F3.out⟩
                go_cut [8] from 81 to 98 (fun s8 wx => ∃ xb A cc, s8 = .pointer (some ⟨xb, 0, none⟩) ∧ Hid (Below w.heap.size wr wx) ∧ Hid (XB w (some ⟨b1, o1, none⟩) k1 (some ⟨b2, o2, none⟩) k2 (some ⟨b, o, none⟩) k3 c r xb 52 A cc X wx))
                case first =>
                  go_wp2_with fail
                  refine wp_region_held_drew (S := fun w' => (w'.cell? ⟨w.heap.size, 2, none⟩ = some (.slice (some ⟨b1, o1, none⟩) k k1) ∧ w'.cell? ⟨w.heap.size, 6, none⟩ = some (.slice (some ⟨b2, o2, none⟩) k k2) ∧ w'.cell? ⟨w.heap.size, 7, none⟩ = some (.slice (some ⟨b, o, none⟩) k k3)) ∧ (w'.cell? ⟨b1, o1 + i * 5, none⟩ = some (.slice Ac lc cc1) ∧ w'.cell? ⟨b1, o1 + i * 5 + 1, none⟩ = some (.int .i64 bt.kind) ∧ w'.cell? ⟨b1, o1 + i * 5 + 2, none⟩ = some (.int .i64 bt.a) ∧ w'.cell? ⟨b1, o1 + i * 5 + 3, none⟩ = some (.int .i64 bt.to) ∧ w'.cell? ⟨b1, o1 + i * 5 + 4, none⟩ = some (.int .i64 bt.el)) ∧ (w'.cell? ⟨b2, o2 + i * 5, none⟩ = some (.slice Am lm cm1) ∧ w'.cell? ⟨b2, o2 + i * 5 + 1, none⟩ = some (.int .i64 mt.kind) ∧ w'.cell? ⟨b2, o2 + i * 5 + 2, none⟩ = some (.int .i64 mt.a) ∧ w'.cell? ⟨b2, o2 + i * 5 + 3, none⟩ = some (.int .i64 mt.to) ∧ w'.cell? ⟨b2, o2 + i * 5 + 4, none⟩ = some (.int .i64 mt.el)) ∧ w'.cell? ⟨b, o + i, none⟩ = some (.slice Ai li ci)) (by kernel_rfl) (HS21.out _ HR.out.drew (Below.refl _ _).drew) (fun hHeld => ?_)
                  have HV0 := Lib.hid HR.out.drew
                  have HB0 : Hid (Below w.heap.size wr wr.drew) := (Below.refl _ _).drew
                  have HC0 : Hid (Below wr.heap.size wr wr.drew) := (Below.refl _ _).drew
                  clear HR
                  generalize hVV : wr.drew = V0 at *
                  clear hVV
                  refine take_at 0 81 (.pointer (some ⟨w.heap.size, 0, none⟩)) rfl rfl (by kernel_rfl) (by kernel_rfl) (by kernel_rfl) (fun _ _ _ h => h) (Or.inl ⟨by rfl, ?_⟩) hHeld ?_
                  · intro w9 hSw
                    (try dsimp only at hSw)
                    go_simp
                    all_goals (first | (intro h9; omega) | omega)
                  (try simp only [Act.put, List.setIfInBounds_toArray, List.set_cons_zero, List.set_cons_succ])
                  refine take_at 1 82 (.pointer (some ⟨w.heap.size, 2, none⟩)) rfl rfl (by kernel_rfl) (by kernel_rfl) (by kernel_rfl) (fun _ _ _ h => h) (Or.inl ⟨by rfl, ?_⟩) hHeld ?_
                  · intro w9 hSw
                    (try dsimp only at hSw)
                    go_simp
                    all_goals (first | (intro h9; omega) | omega)
                  (try simp only [Act.put, List.setIfInBounds_toArray, List.set_cons_zero, List.set_cons_succ])
                  refine take_at 2 83 (.slice (some ⟨b1, o1, none⟩) k k1) rfl rfl (by kernel_rfl) (by kernel_rfl) (by kernel_rfl) (fun _ _ _ h => h) (Or.inl ⟨by rfl, ?_⟩) hHeld ?_
                  · intro w9 hSw
                    (try dsimp only at hSw)
                    go_simp
                    all_goals (first | (intro h9; omega) | omega)
                  (try simp only [Act.put, List.setIfInBounds_toArray, List.set_cons_zero, List.set_cons_succ])
                  refine take_at 3 84 (.int .i64 i) rfl rfl (by kernel_rfl) (by kernel_rfl) (by kernel_rfl) (fun _ _ _ h => h) (Or.inl ⟨by rfl, ?_⟩) hHeld ?_
                  · intro w9 hSw
                    (try dsimp only at hSw)
                    go_simp
                    all_goals (first | (intro h9; omega) | omega)
                  (try simp only [Act.put, List.setIfInBounds_toArray, List.set_cons_zero, List.set_cons_succ])
                  refine take_at 4 85 (.pointer (some ⟨b1, o1 + i * 5, none⟩)) rfl rfl (by kernel_rfl) (by kernel_rfl) (by kernel_rfl) (fun _ _ _ h => h) (Or.inl ⟨by rfl, ?_⟩) hHeld ?_
                  · intro w9 hSw
                    (try dsimp only at hSw)
                    go_simp
                    all_goals (first | (intro h9; omega) | omega)
                  (try simp only [Act.put, List.setIfInBounds_toArray, List.set_cons_zero, List.set_cons_succ])
                  refine take_at 5 86 (.agg #[.slice Ac lc cc1, .int .i64 bt.kind, .int .i64 bt.a, .int .i64 bt.to, .int .i64 bt.el]) rfl rfl (by kernel_rfl) (by kernel_rfl) (by kernel_rfl) (fun _ _ _ h => h) (Or.inl ⟨by rfl, ?_⟩) hHeld ?_
                  · intro w9 hSw
                    (try dsimp only at hSw)
                    go_simp
                    all_goals (first | (intro h9; omega) | omega)
                  (try simp only [Act.put, List.setIfInBounds_toArray, List.set_cons_zero, List.set_cons_succ])
                  refine take_at 6 87 (.pointer (some ⟨w.heap.size, 3, none⟩)) rfl rfl (by kernel_rfl) (by kernel_rfl) (by kernel_rfl) (fun _ _ _ h => h) (Or.inl ⟨by rfl, ?_⟩) hHeld ?_
                  · intro w9 hSw
                    (try dsimp only at hSw)
                    go_simp
                    all_goals (first | (intro h9; omega) | omega)
                  (try simp only [Act.put, List.setIfInBounds_toArray, List.set_cons_zero, List.set_cons_succ])
                  refine take_at 7 88 (.pointer (some ⟨w.heap.size, 6, none⟩)) rfl rfl (by kernel_rfl) (by kernel_rfl) (by kernel_rfl) (fun _ _ _ h => h) (Or.inl ⟨by rfl, ?_⟩) hHeld ?_
                  · intro w9 hSw
                    (try dsimp only at hSw)
                    go_simp
                    all_goals (first | (intro h9; omega) | omega)
                  (try simp only [Act.put, List.setIfInBounds_toArray, List.set_cons_zero, List.set_cons_succ])
                  refine take_at 8 89 (.slice (some ⟨b2, o2, none⟩) k k2) rfl rfl (by kernel_rfl) (by kernel_rfl) (by kernel_rfl) (fun _ _ _ h => h) (Or.inl ⟨by rfl, ?_⟩) hHeld ?_
                  · intro w9 hSw
                    (try dsimp only at hSw)
                    go_simp
                    all_goals (first | (intro h9; omega) | omega)
                  (try simp only [Act.put, List.setIfInBounds_toArray, List.set_cons_zero, List.set_cons_succ])
                  refine take_at 9 90 (.int .i64 i) rfl rfl (by kernel_rfl) (by kernel_rfl) (by kernel_rfl) (fun _ _ _ h => h) (Or.inl ⟨by rfl, ?_⟩) hHeld ?_
                  · intro w9 hSw
                    (try dsimp only at hSw)
                    go_simp
                    all_goals (first | (intro h9; omega) | omega)
                  (try simp only [Act.put, List.setIfInBounds_toArray, List.set_cons_zero, List.set_cons_succ])
                  refine take_at 10 91 (.pointer (some ⟨b2, o2 + i * 5, none⟩)) rfl rfl (by kernel_rfl) (by kernel_rfl) (by kernel_rfl) (fun _ _ _ h => h) (Or.inl ⟨by rfl, ?_⟩) hHeld ?_
                  · intro w9 hSw
                    (try dsimp only at hSw)
                    go_simp
                    all_goals (first | (intro h9; omega) | omega)
                  (try simp only [Act.put, List.setIfInBounds_toArray, List.set_cons_zero, List.set_cons_succ])
                  refine take_at 11 92 (.agg #[.slice Am lm cm1, .int .i64 mt.kind, .int .i64 mt.a, .int .i64 mt.to, .int .i64 mt.el]) rfl rfl (by kernel_rfl) (by kernel_rfl) (by kernel_rfl) (fun _ _ _ h => h) (Or.inl ⟨by rfl, ?_⟩) hHeld ?_
                  · intro w9 hSw
                    (try dsimp only at hSw)
                    go_simp
                    all_goals (first | (intro h9; omega) | omega)
                  (try simp only [Act.put, List.setIfInBounds_toArray, List.set_cons_zero, List.set_cons_succ])
                  refine take_at 12 93 (.pointer (some ⟨w.heap.size, 7, none⟩)) rfl rfl (by kernel_rfl) (by kernel_rfl) (by kernel_rfl) (fun _ _ _ h => h) (Or.inl ⟨by rfl, ?_⟩) hHeld ?_
                  · intro w9 hSw
                    (try dsimp only at hSw)
                    go_simp
                    all_goals (first | (intro h9; omega) | omega)
                  (try simp only [Act.put, List.setIfInBounds_toArray, List.set_cons_zero, List.set_cons_succ])
                  refine take_at 13 94 (.slice (some ⟨b, o, none⟩) k k3) rfl rfl (by kernel_rfl) (by kernel_rfl) (by kernel_rfl) (fun _ _ _ h => h) (Or.inl ⟨by rfl, ?_⟩) hHeld ?_
                  · intro w9 hSw
                    (try dsimp only at hSw)
                    go_simp
                    all_goals (first | (intro h9; omega) | omega)
                  (try simp only [Act.put, List.setIfInBounds_toArray, List.set_cons_zero, List.set_cons_succ])
                  refine take_at 14 95 (.int .i64 i) rfl rfl (by kernel_rfl) (by kernel_rfl) (by kernel_rfl) (fun _ _ _ h => h) (Or.inl ⟨by rfl, ?_⟩) hHeld ?_
                  · intro w9 hSw
                    (try dsimp only at hSw)
                    go_simp
                    all_goals (first | (intro h9; omega) | omega)
                  (try simp only [Act.put, List.setIfInBounds_toArray, List.set_cons_zero, List.set_cons_succ])
                  refine take_at 15 96 (.pointer (some ⟨b, o + i, none⟩)) rfl rfl (by kernel_rfl) (by kernel_rfl) (by kernel_rfl) (fun _ _ _ h => h) (Or.inl ⟨by rfl, ?_⟩) hHeld ?_
                  · intro w9 hSw
                    (try dsimp only at hSw)
                    go_simp
                    all_goals (first | (intro h9; omega) | omega)
                  (try simp only [Act.put, List.setIfInBounds_toArray, List.set_cons_zero, List.set_cons_succ])
                  refine take_at 16 97 (.slice Ai li ci) rfl rfl (by kernel_rfl) (by kernel_rfl) (by kernel_rfl) (fun _ _ _ h => h) (Or.inl ⟨by rfl, ?_⟩) hHeld ?_
                  · intro w9 hSw
                    (try dsimp only at hSw)
                    go_simp
                    all_goals (first | (intro h9; omega) | omega)
                  (try simp only [Act.put, List.setIfInBounds_toArray, List.set_cons_zero, List.set_cons_succ])
                  refine wpAnyH_ready (rs := [17, 18]) (by kernel_rfl) (by simp) ?_
                  refine AllReadyH.cons rfl (fun K hK => ?_) ?_
                  · go_simp
                    refine (C21.out V0 HC0.out).mono ?_
                    rintro e V1 ⟨A, cc, rfl, hP⟩
                    (try go_wp2_with fail)
                    have HPL := Lib.hid (hP.base HV0.out.blw)
                    have HV1 := Lib.hid (HV0.out.next hP.blw)
                    have HB1 := Lib.hid (HB0.out.trans (hP.blw.mono (Nat.le_trans HV0.out.blw.size (Nat.le_refl _))))
                    refine hK.out _ _ (HS21.out _ HV1.out HB1.out) (fun hHeld => ?_)
                    clear hK K
                    refine wpAnyH_ready (rs := [18]) (by kernel_rfl) (by simp) ?_
                    refine AllReadyH.cons rfl (fun K hK => ?_) ?_
                    · go_simp
                      have HV2 := Lib.hid (HV1.out.alloc (.cells #[.slice none 0 0, .int .i64 0, .int .i64 0, .int .i64 0, .int .i64 0] 52))
                      have HB2 := Lib.hid (HB1.out.alloc HV1.out.blw.size (.cells #[.slice none 0 0, .int .i64 0, .int .i64 0, .int .i64 0, .int .i64 0] 52))
                      have HRO := Lib.hid (Row.new V1 52 #[.slice none 0 0, .int .i64 0, .int .i64 0, .int .i64 0, .int .i64 0])
                      have hlt : w.heap.size + 1 + 1 < V1.heap.size := HV1.out.rr.lt
                      have HP2 := Lib.hid (HPL.out.alloc (.cells #[.slice none 0 0, .int .i64 0, .int .i64 0, .int .i64 0, .int .i64 0] 52))
                      clear HPL
                      have HPL := HP2
                      clear HP2
                      refine hK.out _ _ (HS21.out _ HV2.out HB2.out) (fun hHeld => ?_)
                      clear hK K
                      generalize V1.heap.size = xb at *
                      generalize V1.alloc (.cells #[.slice none 0 0, .int .i64 0, .int .i64 0, .int .i64 0, .int .i64 0] 52) = V2 at *
                      refine wpAnyH_ready (rs := [19]) (by kernel_rfl) (by simp) ?_
                      refine AllReadyH.cons rfl (fun K hK => ?_) ?_
                      · have hrow := HRO.out
                        have f0 := hrow.cell 0; have f1 := hrow.cell 1; have f2 := hrow.cell 2; have f3 := hrow.cell 3; have f4 := hrow.cell 4
                        simp only [List.getElem?_toArray, List.getElem?_cons_zero, List.getElem?_cons_succ] at f0 f1 f2 f3 f4
                        have g0 := hrow.frozen 0; have g1 := hrow.frozen 1; have g2 := hrow.frozen 2; have g3 := hrow.frozen 3; have g4 := hrow.frozen 4
                        have HXB := Lib.hid (XB.of HV2.out HPL.out hrow hlt (by decide))
                        have HB9 := Lib.hid (HB2.out.trans (blw5 (show w.heap.size ≤ xb by omega) ((Below.refl V2.heap.size V2).mono HV2.out.blw.size) (.slice A X.out.length cc) (.int .i64 X.err) (.int .i64 (X.at_ : Int)) (.int .i64 (X.steps : Int)) (.int .i64 (X.largest : Int))))
                        go_simp
                        refine hK.out _ _ (HS21.out _ HXB.out.cr HB9.out) (fun hHeld => ?_)
                        clear hK K f0 f1 f2 f3 f4 g0 g1 g2 g3 g4 hrow
                        refine wpAnyH_done (by kernel_rfl) ?_ _
                        clear hHeld
                        go_wp2_with fail
                        go_meet
                        case rel => exact ⟨xb, A, cc, rfl, HB9.out, HXB.out⟩
                      exact AllReadyH.nil
                    exact AllReadyH.nil
                  refine AllReadyH.cons rfl (fun K hK => ?_) ?_
                  · go_simp
                    have HV1 := Lib.hid (HV0.out.alloc (.cells #[.slice none 0 0, .int .i64 0, .int .i64 0, .int .i64 0, .int .i64 0] 52))
                    have HB1 := Lib.hid (HB0.out.alloc HV0.out.blw.size (.cells #[.slice none 0 0, .int .i64 0, .int .i64 0, .int .i64 0, .int .i64 0] 52))
                    have HRO := Lib.hid (Row.new V0 52 #[.slice none 0 0, .int .i64 0, .int .i64 0, .int .i64 0, .int .i64 0])
                    have hlt : w.heap.size + 1 + 1 < V0.heap.size := HV0.out.rr.lt
                    have HC1 := Lib.hid (HC0.out.alloc HC0.out.size (.cells #[.slice none 0 0, .int .i64 0, .int .i64 0, .int .i64 0, .int .i64 0] 52))
                    refine hK.out _ _ (HS21.out _ HV1.out HB1.out) (fun hHeld => ?_)
                    clear hK K
                    generalize V0.heap.size = xb at *
                    generalize V0.alloc (.cells #[.slice none 0 0, .int .i64 0, .int .i64 0, .int .i64 0, .int .i64 0] 52) = V1 at *
                    refine wpAnyH_ready (rs := [17]) (by kernel_rfl) (by simp) ?_
                    refine AllReadyH.cons rfl (fun K hK => ?_) ?_
                    · go_simp
                      refine (C21.out V1 HC1.out).mono ?_
                      rintro e V2 ⟨A, cc, rfl, hP⟩
                      (try go_wp2_with fail)
                      have HPL := Lib.hid (hP.base HV1.out.blw)
                      have HV2 := Lib.hid (HV1.out.next hP.blw)
                      have HB2 := Lib.hid (HB1.out.trans (hP.blw.mono (Nat.le_trans HV1.out.blw.size (Nat.le_refl _))))
                      refine hK.out _ _ (HS21.out _ HV2.out HB2.out) (fun hHeld => ?_)
                      clear hK K
                      have HR2 := Lib.hid (HRO.out.below hP.blw HRO.out.lt)
                      refine wpAnyH_ready (rs := [19]) (by kernel_rfl) (by simp) ?_
                      refine AllReadyH.cons rfl (fun K hK => ?_) ?_
                      · have hrow := HR2.out
                        have f0 := hrow.cell 0; have f1 := hrow.cell 1; have f2 := hrow.cell 2; have f3 := hrow.cell 3; have f4 := hrow.cell 4
                        simp only [List.getElem?_toArray, List.getElem?_cons_zero, List.getElem?_cons_succ] at f0 f1 f2 f3 f4
                        have g0 := hrow.frozen 0; have g1 := hrow.frozen 1; have g2 := hrow.frozen 2; have g3 := hrow.frozen 3; have g4 := hrow.frozen 4
                        have HXB := Lib.hid (XB.of HV2.out HPL.out hrow hlt (by decide))
                        have HB9 := Lib.hid (HB2.out.trans (blw5 (show w.heap.size ≤ xb by omega) ((Below.refl V2.heap.size V2).mono HV2.out.blw.size) (.slice A X.out.length cc) (.int .i64 X.err) (.int .i64 (X.at_ : Int)) (.int .i64 (X.steps : Int)) (.int .i64 (X.largest : Int))))
                        go_simp
                        refine hK.out _ _ (HS21.out _ HXB.out.cr HB9.out) (fun hHeld => ?_)
                        clear hK K f0 f1 f2 f3 f4 g0 g1 g2 g3 g4 hrow
                        refine wpAnyH_done (by kernel_rfl) ?_ _
                        clear hHeld
                        go_wp2_with fail
                        go_meet
                        case rel => exact ⟨xb, A, cc, rfl, HB9.out, HXB.out⟩
                      exact AllReadyH.nil
                    exact AllReadyH.nil
                  exact AllReadyH.nil
                case rest =>
                  obtain ⟨xb, A, cc, rfl, HB9, HXB⟩ := hcut
                  have hxs := HFT.out.small hib
                  rw [← HX.out] at hxs
                  have hsm := HLB.out.ok.sm HFT.out (Nat.le_of_lt hib) (Nat.zero_le 2) HLB.out.lar
                  have HVS : Hid (visitR c i r = ⟨X.err, if X.err = 0 then r.blk else i, if X.err = 0 then r.at_ else X.at_, r.blocks + 1, r.edges, r.steps + X.steps, max r.largest X.largest⟩) := by show _ = _; unfold visitR; rw [← HX.out]
                  obtain ⟨hx3, hx4, hx5⟩ := hxs.2.2
                  obtain ⟨hs1, hs2, hs3⟩ := hsm
                  have hla := HLB.out.lar
                  have herr := HLB.out.err
                  have HNX := Lib.hid (HLB.out.next hib)
                  have HBK : Hid (blkR2 c i r = if X.err = 0 then edgesR c X.out i (succs bt) 0 (visitR c i r) else visitR c i r) := by show _ = _; unfold blkR2; rw [← HX.out, HSU.out]
                  have HES : Hid (X.err = 0 → LpE c i X.out 0 (blkR2 c i r) (visitR c i r)) := fun h => by have := LpE.start HLB.out HFT.out hib (by rw [← HX.out]; exact h); rw [← HX.out] at this; exact this
                  have HR0X := Lib.hid HR.out.blw.size
                  obtain ⟨r0, hr0⟩ : ∃ z, z = r := ⟨_, rfl⟩
                  rw [← hr0] at HVS HNX HBK HES HLB
                  have HR0 := Lib.hid hr0
                  clear hr0
                  clear hxs C21 F10 F20 F21 F22 F23 F24 F3 HR HS21
                  obtain ⟨st, blk, at1, blocks, edges, steps, largest⟩ := r
                  obtain ⟨xo, xe, xat, xst, xla⟩ := X
                  dsimp only at hx3 hx4 hx5 hs1 hs2 hs3 hla herr HES HBK
                  subst herr
                  have x0 := HXB.out.row.cell 0; have x1 := HXB.out.row.cell 1; have x2 := HXB.out.row.cell 2; have x3 := HXB.out.row.cell 3; have x4 := HXB.out.row.cell 4
                  simp only [List.getElem?_toArray, List.getElem?_cons_zero, List.getElem?_cons_succ] at x0 x1 x2 x3 x4
                  have hxl := HXB.out.lt
                  have HCX := Lib.hid HXB.out.cr
                  have r0 := HCX.out.rr.cell 0; have r1 := HCX.out.rr.cell 1; have r2 := HCX.out.rr.cell 2; have r3 := HCX.out.rr.cell 3
                  have r4 := HCX.out.rr.cell 4; have r5 := HCX.out.rr.cell 5; have r6 := HCX.out.rr.cell 6
                  have rf := fun k => HCX.out.rr.frozen k
                  simp only [List.getElem?_toArray, List.getElem?_cons_zero, List.getElem?_cons_succ] at r0 r1 r2 r3 r4 r5 r6
                  have rf0 := rf 0; have rf1 := rf 1; have rf2 := rf 2; have rf3 := rf 3; have rf4 := rf 4; have rf5 := rf 5; have rf6 := rf 6
                  clear rf
                  clear HCX
                  go_upto_if 113 with fail
                  clear x0 x1 x2 x3 x4
                  clear r0 r1 r2 r3 r4 r5 r6 rf0 rf1 rf2 rf3 rf4 rf5 rf6
                  have HX6 := Lib.hid ((HXB.out.put ⟨0, blk, at1, blocks + 1, edges, steps, largest⟩ 3 (.int .i64 ((blocks : Int) + 1)) (by simp)).put ⟨0, blk, at1, blocks + 1, edges, steps + xst, largest⟩ 5 (.int .i64 ((steps : Int) + (xst : Int))) (by simp))
                  have HB6 := Lib.hid ((HB9.out.setCell (p := ⟨w.heap.size + 1 + 1, 3, none⟩) (by show _ ≤ w.heap.size + 1 + 1; omega) (.int .i64 ((blocks : Int) + 1))).setCell (p := ⟨w.heap.size + 1 + 1, 5, none⟩) (by show _ ≤ w.heap.size + 1 + 1; omega) (.int .i64 ((steps : Int) + (xst : Int))))
                  clear HXB HB9
                  generalize ((wc.setCell ⟨w.heap.size + 1 + 1, 3, none⟩ (.int .i64 ((blocks : Int) + 1))).setCell ⟨w.heap.size + 1 + 1, 5, none⟩ (.int .i64 ((steps : Int) + (xst : Int)))) = W6 at *
                  go_cut [116] from 113 to 116 (fun s116 wx => Hid (Below w.heap.size wr wx) ∧ Hid (XB w (some ⟨b1, o1, none⟩) k1 (some ⟨b2, o2, none⟩) k2 (some ⟨b, o, none⟩) k3 c ⟨0, blk, at1, blocks + 1, edges, steps + xst, max largest xla⟩ xb 52 A cc ⟨xo, xe, xat, xst, xla⟩ wx))
                  case first =>
                    have x4 := HX6.out.row.cell 4
                    simp only [List.getElem?_toArray, List.getElem?_cons_zero, List.getElem?_cons_succ] at x4
                    have r6 := HX6.out.cr.rr.cell 6
                    have rf6 := HX6.out.cr.rr.frozen 6
                    simp only [List.getElem?_toArray, List.getElem?_cons_zero, List.getElem?_cons_succ] at r6
                    by_cases hgt : largest < xla
                    · have hgz : (largest : Int) < (xla : Int) := by omega
                      have HX7 := Lib.hid (HX6.out.put ⟨0, blk, at1, blocks + 1, edges, steps + xst, max largest xla⟩ 6 (.int .i64 (xla : Int)) (by rw [show max largest xla = xla by omega]; rfl))
                      have HB7 := Lib.hid (HB6.out.setCell (p := ⟨w.heap.size + 1 + 1, 6, none⟩) (by show _ ≤ w.heap.size + 1 + 1; omega) (.int .i64 (xla : Int)))
                      go_wp2
                      go_meet
                      case rel => exact ⟨HB7.out, HX7.out⟩
                    · have hgz : ¬ (largest : Int) < (xla : Int) := by omega
                      have HX7 : Hid (XB w (some ⟨b1, o1, none⟩) k1 (some ⟨b2, o2, none⟩) k2 (some ⟨b, o, none⟩) k3 c ⟨0, blk, at1, blocks + 1, edges, steps + xst, max largest xla⟩ xb 52 A cc ⟨xo, xe, xat, xst, xla⟩ W6) := by
                        show XB _ _ _ _ _ _ _ _ _ _ _ _ _ _ _
                        rw [show max largest xla = largest by omega]
                        exact HX6.out
                      go_wp2
                      go_meet
                      case rel => exact ⟨HB6.out, HX7.out⟩
                  case rest =>
                    obtain ⟨HB7, HX7⟩ := hcut
                    clear HX6 HB6
                    have x0 := HX7.out.row.cell 0; have x1 := HX7.out.row.cell 1; have x2 := HX7.out.row.cell 2; have x3 := HX7.out.row.cell 3; have x4 := HX7.out.row.cell 4
                    simp only [List.getElem?_toArray, List.getElem?_cons_zero, List.getElem?_cons_succ] at x0 x1 x2 x3 x4
                    have HCX := Lib.hid HX7.out.cr
                    obtain ⟨mxl, hmxl⟩ : ∃ z, z = max largest xla := ⟨_, rfl⟩
                    rw [← hmxl] at HX7 HCX
                    have HML := Lib.hid hmxl
                    have hmxl4 : mxl ≤ 400000 := by omega
                    clear hmxl
                    by_cases hxe : xe = 0
                    · have dxe : (xe != 0) = false := by simp [hxe]
                      have HLE : Hid (LpE c i xo 0 (blkR2 c i r0) ⟨0, blk, at1, blocks + 1, edges, steps + xst, mxl⟩) := by
                        have h1 := HES.out hxe
                        rw [HVS.out] at h1
                        dsimp only at h1
                        rw [if_pos hxe, if_pos hxe, hxe] at h1
                        have h2 := HR0.out
                        rw [HML.out]
                        show LpE _ _ _ _ _ _
                        subst h2
                        exact h1
                      clear hxe HES
                      have c0 := HCX.out.row.cell 0; have c1 := HCX.out.row.cell 1; have c2 := HCX.out.row.cell 2; have c3 := HCX.out.row.cell 3
                      have c4 := HCX.out.row.cell 4; have c5 := HCX.out.row.cell 5; have c6 := HCX.out.row.cell 6; have c7 := HCX.out.row.cell 7
                      simp only [List.getElem?_toArray, List.getElem?_cons_zero, List.getElem?_cons_succ] at c0 c1 c2 c3 c4 c5 c6 c7
                      rw [HNB.out] at c2
                      have f1 := (HB7.out.cell (p := ⟨b1, o1 + i * 5 + 1, none⟩) hb1).trans F11.out
                      have f2 := (HB7.out.cell (p := ⟨b1, o1 + i * 5 + 2, none⟩) hb1).trans F12.out
                      have f3 := (HB7.out.cell (p := ⟨b1, o1 + i * 5 + 3, none⟩) hb1).trans F13.out
                      have f4 := (HB7.out.cell (p := ⟨b1, o1 + i * 5 + 4, none⟩) hb1).trans F14.out
                      have C31 := Lib.hid fun W => rsucc_own bt W
                      go_wp2_with fail
                      refine (C31.out _).mono ?_
                      rintro e W8 ⟨AS, cs, rfl, hcs, hcsm, hse, hb8, how⟩
                      have hap : Hid (∀ a : Addr, AS = some a → ¬ Is (w.heap.size + 1 + 1) a.block) := fun a e h => by
                        have h1 := how a e
                        have h2 := HX7.out.cr.rr.lt
                        have : a.block = w.heap.size + 1 + 1 := h
                        omega
                      have HX8 := Lib.hid (HX7.out.next hb8)
                      have HB8 := Lib.hid (HB7.out.trans (hb8.mono (Nat.le_trans HR0X.out HB7.out.size)))
                      have HSE := Lib.hid hse
                      have HSC := Lib.hid (fun (t : Int) (ht : t ∈ succs bt) => HFT.out.succ hib (t := t) (by rw [HSU.out]; exact ht))
                      have HSL := Lib.hid (show (succs (blkAt c.bs i).term).length = (succs bt).length by rw [HSU.out])
                      clear c0 c1 c2 c3 c4 c5 c6 c7
                      clear x0 x1 x2 x3 x4 f1 f2 f3 f4 HX7 HB7 HCX hse hb8 how C31 F11 F12 F13 F14 HVS HBK
                      obtain ⟨sb, hsb⟩ : ∃ z, z = succs bt := ⟨_, rfl⟩
                      rw [← hsb] at HSE HSC hcs HSL
                      have HSB := Lib.hid hsb
                      have hns2 : sb.length ≤ 2 := by rw [hsb]; exact succs_len bt
                      rw [← hsb]
                      clear hsb
                      go_upto_region 32 with fail
                      go_wp2
                      obtain ⟨ns, hns⟩ : ∃ z, z = sb.length := ⟨_, rfl⟩
                      rw [← hns] at hns2 hcs ⊢
                      have HNS := Lib.hid hns
                      clear hns
                      go_loopg [10] ns (fun g v10 wr => ∃ (q : Nat) (r : Rp), q + g = ns ∧ v10 = .int .i64 q ∧ Hid (LpE c i xo q (blkR2 c i r0) r) ∧ Hid (XB w (some ⟨b1, o1, none⟩) k1 (some ⟨b2, o2, none⟩) k2 (some ⟨b, o, none⟩) k3 c r xb 52 A cc ⟨xo, xe, xat, xst, xla⟩ wr) ∧ Hid (Sees wr wr.heap.size AS (ints sb)))
                      case atStart => exact ⟨0, _, by omega, by go_num, HLE.out, HX8.out, HSE.out⟩
                      case round =>
                        clear HLE HX8 HSE HB8
                        obtain ⟨q, r, hgq, rfl, HLE, HX, HSE⟩ := hrel
                        by_cases hq : q < ns
                        · have hqz : (q : Int) < (ns : Int) := by omega
                          have hqs : q < sb.length := by rw [← HNS.out]; exact hq
                          have hts := HSC.out _ (List.getElem_mem hqs)
                          obtain ⟨tt, htt⟩ : ∃ tt : Nat, sb[q] = (tt : Int) := ⟨sb[q].toNat, by omega⟩
                          rw [htt] at hts
                          have htk : tt < k := by have := hts.2; rw [HNB.out] at this; omega
                          have htz : (tt : Int) < (k : Int) := by omega
                          obtain ⟨b5, o5, rfl, hb5, hto⟩ := HSE.out (by intro e; have := congrArg List.length e; simp [ints] at this; rw [this] at hqs; simp at hqs)
                          have hto := hto q (.int .i64 (tt : Int)) (by rw [← htt]; simp [ints, hqs])
                          have hti : tt < c.inv.length := by rw [← HNW.out]; exact htk
                          obtain ⟨b3, o3, At, ct, e3, hb3', hc3, hci3, hcm3, hs3⟩ := HX.out.cr.see.inv.at_ hti
                          injection e3 with e3
                          injection e3 with e3 e4
                          subst e3 e4
                          have HCI : Hid (c.i tt = c.inv[tt]) := Ct.i_lt hti
                          have hlt4 := HL40.out _ (List.getElem_mem hti)
                          have HTB : Hid ((succs (blkAt c.bs i).term)[q]'(by rw [HSL.out]; exact hqs) = (tt : Int)) := by
                            show _ = _
                            rw [← htt]
                            congr 1
                            rw [HSU.out, HSB.out]
                          have hsm := HLE.out.ok.sm HFT.out (by omega) (show q ≤ 2 by omega) HLE.out.lar
                          have hol := HLE.out.ol
                          have hlar := HLE.out.lar
                          have herr := HLE.out.err
                          obtain ⟨L, hL⟩ : ∃ z, z = c.inv[tt] := ⟨_, rfl⟩
                          rw [← hL] at HCI hlt4 hc3 hci3 hs3
                          have HS3 := Lib.hid hs3
                          clear hL hs3 hts htt
                          obtain ⟨lt, hlt⟩ : ∃ z, z = L.length := ⟨_, rfl⟩
                          rw [← hlt] at hlt4 hc3 hci3
                          have HLT := Lib.hid hlt
                          clear hlt
                          obtain ⟨r1, hr1⟩ : ∃ z, z = r := ⟨_, rfl⟩
                          rw [← hr1] at HLE
                          have HR1 := Lib.hid hr1
                          clear hr1
                          obtain ⟨st, bk, a1, bl, ed, sp, lg⟩ := r
                          dsimp only at hsm hol hlar herr
                          subst herr
                          obtain ⟨hs1', hs2', hs3'⟩ := hsm
                          have HCX := Lib.hid HX.out.cr
                          have r0 := HCX.out.rr.cell 0; have r1 := HCX.out.rr.cell 1; have r2 := HCX.out.rr.cell 2; have r3 := HCX.out.rr.cell 3
                          have r4 := HCX.out.rr.cell 4; have r5 := HCX.out.rr.cell 5; have r6 := HCX.out.rr.cell 6
                          have rf := fun k => HCX.out.rr.frozen k
                          simp only [List.getElem?_toArray, List.getElem?_cons_zero, List.getElem?_cons_succ] at r0 r1 r2 r3 r4 r5 r6
                          have rf0 := rf 0; have rf1 := rf 1; have rf2 := rf 2; have rf3 := rf 3; have rf4 := rf 4; have rf5 := rf 5; have rf6 := rf 6
                          clear rf
                          clear HCX
                          go_upto_region 36 with fail
                          clear r0 r1 r2 r3 r4 r5 r6 rf0 rf1 rf2 rf3 rf4 rf5 rf6
                          have HX9 := Lib.hid (HX.out.put ⟨0, bk, a1, bl, ed + 1, sp, lg⟩ 4 (.int .i64 ((ed : Int) + 1)) (by simp))
                          have hm9 := (Mods.refl (Is (w.heap.size + 1 + 1)) wr).put 4 (.int .i64 ((ed : Int) + 1))
                          have HSE9 := Lib.hid (sees_mods HSE.out hm9 (Nat.le_refl _) hap.out)
                          have hz9 : wr.heap.size = (wr.setCell ⟨w.heap.size + 1 + 1, 4, none⟩ (.int .i64 ((ed : Int) + 1))).heap.size := by simp
                          have hto9 := (hm9.cell (p := ⟨b5, o5 + q, none⟩) hb5 (hap.out ⟨b5, o5, none⟩ rfl)).trans hto
                          have hbw9 := hm9.below (B := w.heap.size) HX.out.cr.blw.size (fun k' hk' => by have : k' = w.heap.size + 1 + 1 := hk'; omega)
                          have hc9 := (hbw9.cell (p := ⟨b, o + tt, none⟩) hb3').trans hc3
                          have HS9 := Lib.hid (HS3.out.below hbw9)
                          rw [hz9] at HSE9 hb5
                          clear hto hc3 HS3 hm9 hbw9 hz9 HX HSE
                          generalize (wr.setCell ⟨w.heap.size + 1 + 1, 4, none⟩ (.int .i64 ((ed : Int) + 1))) = W9 at *
                          have HCX := Lib.hid HX9.out.cr
                          have c0 := HCX.out.row.cell 0; have c1 := HCX.out.row.cell 1; have c2 := HCX.out.row.cell 2; have c3 := HCX.out.row.cell 3
                          have c4 := HCX.out.row.cell 4; have c5 := HCX.out.row.cell 5; have c6 := HCX.out.row.cell 6; have c7 := HCX.out.row.cell 7
                          simp only [List.getElem?_toArray, List.getElem?_cons_zero, List.getElem?_cons_succ] at c0 c1 c2 c3 c4 c5 c6 c7
                          rw [← HNW.out] at c7
                          have r0 := HCX.out.rr.cell 0; have r1 := HCX.out.rr.cell 1; have r2 := HCX.out.rr.cell 2; have r3 := HCX.out.rr.cell 3
                          have r4 := HCX.out.rr.cell 4; have r5 := HCX.out.rr.cell 5; have r6 := HCX.out.rr.cell 6
                          have rf := fun k => HCX.out.rr.frozen k
                          simp only [List.getElem?_toArray, List.getElem?_cons_zero, List.getElem?_cons_succ] at r0 r1 r2 r3 r4 r5 r6
                          have rf0 := rf 0; have rf1 := rf 1; have rf2 := rf 2; have rf3 := rf 3; have rf4 := rf 4; have rf5 := rf 5; have rf6 := rf 6
                          clear rf
                          have x0 := HX9.out.row.cell 0
                          simp only [List.getElem?_toArray, List.getElem?_cons_zero] at x0
                          have hxo : xo.length ≤ 7200 := hx3
                          generalize hxl9 : xo.length = xn at *
                          go_region
                          have HX10 := Lib.hid (HX9.out.put ⟨0, bk, a1, bl, ed + 1, sp + 1 + xn + lt, lg⟩ 5 (.int .i64 ((sp : Int) + 1 + (xn : Int) + (lt : Int))) (by simp)).drew
                          have hm9 := ((Mods.refl (Is (w.heap.size + 1 + 1)) W9).put 5 (.int .i64 ((sp : Int) + 1 + (xn : Int) + (lt : Int)))).drew
                          have HSE10 : Hid (Sees (W9.setCell ⟨w.heap.size + 1 + 1, 5, none⟩ (.int .i64 ((sp : Int) + 1 + (xn : Int) + (lt : Int)))).drew W9.heap.size (some ⟨b5, o5, none⟩) (ints sb)) := sees_mods HSE9.out hm9 (Nat.le_refl _) hap.out
                          have hz9 : W9.heap.size = (W9.setCell ⟨w.heap.size + 1 + 1, 5, none⟩ (.int .i64 ((sp : Int) + 1 + (xn : Int) + (lt : Int)))).drew.heap.size := by simp
                          have hto10 : (W9.setCell ⟨w.heap.size + 1 + 1, 5, none⟩ (.int .i64 ((sp : Int) + 1 + (xn : Int) + (lt : Int)))).drew.cell? ⟨b5, o5 + q, none⟩ = some (.int .i64 (tt : Int)) := (hm9.cell (p := ⟨b5, o5 + q, none⟩) hb5 (hap.out ⟨b5, o5, none⟩ rfl)).trans hto9
                          have hbw9 := hm9.below (B := w.heap.size) HX9.out.cr.blw.size (fun k' hk' => by have : k' = w.heap.size + 1 + 1 := hk'; omega)
                          have hc10 : (W9.setCell ⟨w.heap.size + 1 + 1, 5, none⟩ (.int .i64 ((sp : Int) + 1 + (xn : Int) + (lt : Int)))).drew.cell? ⟨b, o + tt, none⟩ = some (.slice At lt ct) := (hbw9.cell (p := ⟨b, o + tt, none⟩) hb3').trans hc9
                          have HS10 : Hid (Sees (W9.setCell ⟨w.heap.size + 1 + 1, 5, none⟩ (.int .i64 ((sp : Int) + 1 + (xn : Int) + (lt : Int)))).drew w.heap.size At (prs L)) := HS9.out.below hbw9
                          have g5 := hb5
                          rw [hz9] at HSE10 g5
                          clear c0 c1 c2 c3 c4 c5 c6 c7
                          clear r0 r1 r2 r3 r4 r5 r6 rf0 rf1 rf2 rf3 rf4 rf5 rf6
                          clear x0 HCX hto9 hc9 HS9 hm9 hbw9 hz9 HX9 HSE9
                          generalize (W9.setCell ⟨w.heap.size + 1 + 1, 5, none⟩ (.int .i64 ((sp : Int) + 1 + (xn : Int) + (lt : Int)))).drew = W10 at *
                          have hlo := hxl9
                          have HPS := Lib.hid (show Sees W10 W10.heap.size A (prs xo) from by have := HX10.out.pl.sees; exact this)
                          have c7 := HX10.out.cr.row.cell 7
                          have x0 := HX10.out.row.cell 0
                          simp only [List.getElem?_toArray, List.getElem?_cons_zero, List.getElem?_cons_succ] at c7 x0
                          rw [← HNW.out] at c7
                          rw [hxl9] at x0
                          have g7 : w.heap.size < W10.heap.size := HX10.out.cr.row.lt
                          have gx : xb < W10.heap.size := HX10.out.row.lt
                          have g3 : b < W10.heap.size := by omega
                          obtain ⟨m1, m2, hmr⟩ := mres_of L xo
                          obtain ⟨mb, hmb⟩ : ∃ z, z = (misP L xo).isSome := ⟨_, rfl⟩
                          rw [← hmb] at hmr
                          have HMB := Lib.hid hmb
                          clear hmb
                          have C37 : Hid (∀ V, Below W10.heap.size W10 V → Calls Tryz.prog 19 #[.slice At lt ct, .slice A xn cc] V fun e w' => e = .returned (.tuple #[.agg #[.int .i64 m1, .int .i64 m2], .bool mb]) ∧ Below V.heap.size V w') := fun V hV => by
                            have h1 := rmissing_any W10.heap.size At A L xo ct cc V ((HS10.out.more (by omega)).below hV) (HPS.out.below hV) hV.size (by rw [← HLT.out]; omega) (by omega)
                            rw [← HLT.out, hxl9, hmr] at h1
                            exact h1
                          have HXN := Lib.hid hxl9
                          clear hmr hxl9 hlo HS10 HPS
                          go_upto_region 37 with fail
                          have HS37 : Hid (∀ V, Below W10.heap.size W10 V → V.cell? ⟨w.heap.size, 7, none⟩ = some (.slice (some ⟨b, o, none⟩) k k3) ∧ V.cell? ⟨b5, o5 + q, none⟩ = some (.int .i64 (tt : Int)) ∧ V.cell? ⟨b, o + tt, none⟩ = some (.slice At lt ct) ∧ V.cell? ⟨xb, 0, none⟩ = some (.slice A xn cc)) := fun V h => ⟨(h.cell (p := ⟨w.heap.size, 7, none⟩) g7).trans c7, (h.cell (p := ⟨b5, o5 + q, none⟩) g5).trans hto10, (h.cell (p := ⟨b, o + tt, none⟩) g3).trans hc10, (h.cell (p := ⟨xb, 0, none⟩) gx).trans x0⟩
                          go_cut [11, 12] from 165 to 178 (fun s11 s12 wx => s12 = .bool mb ∧ Hid (Below W10.heap.size W10 wx))
                          case first =>
                            go_wp2_with fail
                            refine wp_region_held_drew (S := fun w' => w'.cell? ⟨w.heap.size, 7, none⟩ = some (.slice (some ⟨b, o, none⟩) k k3) ∧ w'.cell? ⟨b5, o5 + q, none⟩ = some (.int .i64 (tt : Int)) ∧ w'.cell? ⟨b, o + tt, none⟩ = some (.slice At lt ct) ∧ w'.cell? ⟨xb, 0, none⟩ = some (.slice A xn cc)) (by kernel_rfl) (HS37.out _ (Below.refl _ _).drew) (fun hHeld => ?_)
                            have HB0 : Hid (Below W10.heap.size W10 W10.drew) := (Below.refl _ _).drew
                            generalize hVV : W10.drew = V0 at *
                            clear hVV
                            refine take_at 0 166 (.pointer (some ⟨w.heap.size, 7, none⟩)) rfl rfl (by kernel_rfl) (by kernel_rfl) (by kernel_rfl) (fun _ _ _ h => h) (Or.inl ⟨by rfl, ?_⟩) hHeld ?_
                            · intro w9 hSw
                              (try dsimp only at hSw)
                              go_simp
                              all_goals (first | (intro h9; omega) | omega)
                            (try simp only [Act.put, List.setIfInBounds_toArray, List.set_cons_zero, List.set_cons_succ])
                            refine take_at 1 167 (.slice (some ⟨b, o, none⟩) k k3) rfl rfl (by kernel_rfl) (by kernel_rfl) (by kernel_rfl) (fun _ _ _ h => h) (Or.inl ⟨by rfl, ?_⟩) hHeld ?_
                            · intro w9 hSw
                              (try dsimp only at hSw)
                              go_simp
                              all_goals (first | (intro h9; omega) | omega)
                            (try simp only [Act.put, List.setIfInBounds_toArray, List.set_cons_zero, List.set_cons_succ])
                            refine take_at 2 168 (.slice (some ⟨b5, o5, none⟩) ns cs) rfl rfl (by kernel_rfl) (by kernel_rfl) (by kernel_rfl) (fun _ _ _ h => h) (Or.inl ⟨by rfl, ?_⟩) hHeld ?_
                            · intro w9 hSw
                              (try dsimp only at hSw)
                              go_simp
                              all_goals (first | (intro h9; omega) | omega)
                            (try simp only [Act.put, List.setIfInBounds_toArray, List.set_cons_zero, List.set_cons_succ])
                            refine take_at 3 169 (.int .i64 q) rfl rfl (by kernel_rfl) (by kernel_rfl) (by kernel_rfl) (fun _ _ _ h => h) (Or.inl ⟨by rfl, ?_⟩) hHeld ?_
                            · intro w9 hSw
                              (try dsimp only at hSw)
                              go_simp
                              all_goals (first | (intro h9; omega) | omega)
                            (try simp only [Act.put, List.setIfInBounds_toArray, List.set_cons_zero, List.set_cons_succ])
                            refine take_at 4 170 (.pointer (some ⟨b5, o5 + q, none⟩)) rfl rfl (by kernel_rfl) (by kernel_rfl) (by kernel_rfl) (fun _ _ _ h => h) (Or.inl ⟨by rfl, ?_⟩) hHeld ?_
                            · intro w9 hSw
                              (try dsimp only at hSw)
                              go_simp
                              all_goals (first | (intro h9; omega) | omega)
                            (try simp only [Act.put, List.setIfInBounds_toArray, List.set_cons_zero, List.set_cons_succ])
                            refine take_at 5 171 (.int .i64 tt) rfl rfl (by kernel_rfl) (by kernel_rfl) (by kernel_rfl) (fun _ _ _ h => h) (Or.inl ⟨by rfl, ?_⟩) hHeld ?_
                            · intro w9 hSw
                              (try dsimp only at hSw)
                              go_simp
                              all_goals (first | (intro h9; omega) | omega)
                            (try simp only [Act.put, List.setIfInBounds_toArray, List.set_cons_zero, List.set_cons_succ])
                            refine take_at 6 172 (.pointer (some ⟨b, o + tt, none⟩)) rfl rfl (by kernel_rfl) (by kernel_rfl) (by kernel_rfl) (fun _ _ _ h => h) (Or.inl ⟨by rfl, ?_⟩) hHeld ?_
                            · intro w9 hSw
                              (try dsimp only at hSw)
                              go_simp
                              all_goals (first | (intro h9; omega) | omega)
                            (try simp only [Act.put, List.setIfInBounds_toArray, List.set_cons_zero, List.set_cons_succ])
                            refine take_at 7 173 (.slice At lt ct) rfl rfl (by kernel_rfl) (by kernel_rfl) (by kernel_rfl) (fun _ _ _ h => h) (Or.inl ⟨by rfl, ?_⟩) hHeld ?_
                            · intro w9 hSw
                              (try dsimp only at hSw)
                              go_simp
                              all_goals (first | (intro h9; omega) | omega)
                            (try simp only [Act.put, List.setIfInBounds_toArray, List.set_cons_zero, List.set_cons_succ])
                            refine take_at 8 174 (.pointer (some ⟨xb, 0, none⟩)) rfl rfl (by kernel_rfl) (by kernel_rfl) (by kernel_rfl) (fun _ _ _ h => h) (Or.inl ⟨by rfl, ?_⟩) hHeld ?_
                            · intro w9 hSw
                              (try dsimp only at hSw)
                              go_simp
                              all_goals (first | (intro h9; omega) | omega)
                            (try simp only [Act.put, List.setIfInBounds_toArray, List.set_cons_zero, List.set_cons_succ])
                            refine take_at 9 175 (.slice A xn cc) rfl rfl (by kernel_rfl) (by kernel_rfl) (by kernel_rfl) (fun _ _ _ h => h) (Or.inl ⟨by rfl, ?_⟩) hHeld ?_
                            · intro w9 hSw
                              (try dsimp only at hSw)
                              go_simp
                              all_goals (first | (intro h9; omega) | omega)
                            (try simp only [Act.put, List.setIfInBounds_toArray, List.set_cons_zero, List.set_cons_succ])
                            refine wpAnyH_ready (rs := [10, 14]) (by kernel_rfl) (by simp) ?_
                            refine AllReadyH.cons rfl (fun K hK => ?_) ?_
                            · go_simp
                              refine (C37.out V0 HB0.out).mono ?_
                              rintro e V1 ⟨rfl, hb⟩
                              (try go_wp2_with fail)
                              have HB1 := Lib.hid (HB0.out.trans (hb.mono HB0.out.size))
                              refine hK.out _ _ (HS37.out _ HB1.out) (fun hHeld => ?_)
                              clear hK K
                              refine take_at 11 165 (.tuple #[.agg #[.int .i64 m1, .int .i64 m2], .bool mb]) rfl rfl (by kernel_rfl) (by kernel_rfl) (by kernel_rfl) (fun _ _ _ h => h) (Or.inl ⟨by rfl, ?_⟩) hHeld ?_
                              · intro w9 hSw
                                (try dsimp only at hSw)
                                go_simp
                                all_goals (first | (intro h9; omega) | omega)
                              (try simp only [Act.put, List.setIfInBounds_toArray, List.set_cons_zero, List.set_cons_succ])
                              refine take_at 12 177 (.agg #[.int .i64 m1, .int .i64 m2]) rfl rfl (by kernel_rfl) (by kernel_rfl) (by kernel_rfl) (fun _ _ _ h => h) (Or.inl ⟨by rfl, ?_⟩) hHeld ?_
                              · intro w9 hSw
                                (try dsimp only at hSw)
                                go_simp
                                all_goals (first | (intro h9; omega) | omega)
                              (try simp only [Act.put, List.setIfInBounds_toArray, List.set_cons_zero, List.set_cons_succ])
                              refine take_at 13 178 (.bool mb) rfl rfl (by kernel_rfl) (by kernel_rfl) (by kernel_rfl) (fun _ _ _ h => h) (Or.inl ⟨by rfl, ?_⟩) hHeld ?_
                              · intro w9 hSw
                                (try dsimp only at hSw)
                                go_simp
                                all_goals (first | (intro h9; omega) | omega)
                              (try simp only [Act.put, List.setIfInBounds_toArray, List.set_cons_zero, List.set_cons_succ])
                              refine wpAnyH_ready (rs := [14]) (by kernel_rfl) (by simp) ?_
                              refine AllReadyH.cons rfl (fun K hK => ?_) ?_
                              · go_simp
                                have HB2 := Lib.hid (HB1.out.alloc HB1.out.size (.cells #[.int .i64 0, .int .i64 0] 59))
                                have HRO := Lib.hid (Row.new V1 59 #[.int .i64 0, .int .i64 0])
                                have hpb : W10.heap.size ≤ V1.heap.size := HB1.out.size
                                refine hK.out _ _ (HS37.out _ HB2.out) (fun hHeld => ?_)
                                clear hK K
                                generalize V1.heap.size = pb at *
                                generalize V1.alloc (.cells #[.int .i64 0, .int .i64 0] 59) = V2 at *
                                refine wpAnyH_ready (rs := [15]) (by kernel_rfl) (by simp) ?_
                                refine AllReadyH.cons rfl (fun K hK => ?_) ?_
                                · have hrow := HRO.out
                                  have f0 := hrow.cell 0; have f1 := hrow.cell 1
                                  simp only [List.getElem?_toArray, List.getElem?_cons_zero, List.getElem?_cons_succ] at f0 f1
                                  have g0 := hrow.frozen 0; have g1 := hrow.frozen 1
                                  have HB9 := Lib.hid ((HB2.out.setCell (p := ⟨pb, 0, none⟩) hpb (.int .i64 m1)).setCell (p := ⟨pb, 1, none⟩) hpb (.int .i64 m2))
                                  go_simp
                                  refine hK.out _ _ (HS37.out _ HB9.out) (fun hHeld => ?_)
                                  clear hK K f0 f1 g0 g1 hrow
                                  refine take_at 16 12 (.bool mb) rfl rfl (by kernel_rfl) (by kernel_rfl) (by kernel_rfl) (fun _ _ _ h => h) (Or.inl ⟨by rfl, ?_⟩) hHeld ?_
                                  · intro w9 hSw
                                    (try dsimp only at hSw)
                                    go_simp
                                    all_goals (first | (intro h9; omega) | omega)
                                  (try simp only [Act.put, List.setIfInBounds_toArray, List.set_cons_zero, List.set_cons_succ])
                                  refine wpAnyH_done (by kernel_rfl) ?_ _
                                  clear hHeld
                                  go_wp2_with fail
                                  go_meet
                                  case rel => exact ⟨rfl, HB9.out⟩
                                exact AllReadyH.nil
                              exact AllReadyH.nil
                            refine AllReadyH.cons rfl (fun K hK => ?_) ?_
                            · go_simp
                              have HB1 := Lib.hid (HB0.out.alloc HB0.out.size (.cells #[.int .i64 0, .int .i64 0] 59))
                              have HRO := Lib.hid (Row.new V0 59 #[.int .i64 0, .int .i64 0])
                              have hpb : W10.heap.size ≤ V0.heap.size := HB0.out.size
                              refine hK.out _ _ (HS37.out _ HB1.out) (fun hHeld => ?_)
                              clear hK K
                              generalize V0.heap.size = pb at *
                              generalize V0.alloc (.cells #[.int .i64 0, .int .i64 0] 59) = V1 at *
                              refine wpAnyH_ready (rs := [10]) (by kernel_rfl) (by simp) ?_
                              refine AllReadyH.cons rfl (fun K hK => ?_) ?_
                              · go_simp
                                refine (C37.out V1 HB1.out).mono ?_
                                rintro e V2 ⟨rfl, hb⟩
                                (try go_wp2_with fail)
                                have HB2 := Lib.hid (HB1.out.trans (hb.mono HB1.out.size))
                                refine hK.out _ _ (HS37.out _ HB2.out) (fun hHeld => ?_)
                                clear hK K
                                have HR2 := Lib.hid (HRO.out.below hb HRO.out.lt)
                                refine take_at 11 165 (.tuple #[.agg #[.int .i64 m1, .int .i64 m2], .bool mb]) rfl rfl (by kernel_rfl) (by kernel_rfl) (by kernel_rfl) (fun _ _ _ h => h) (Or.inl ⟨by rfl, ?_⟩) hHeld ?_
                                · intro w9 hSw
                                  (try dsimp only at hSw)
                                  go_simp
                                  all_goals (first | (intro h9; omega) | omega)
                                (try simp only [Act.put, List.setIfInBounds_toArray, List.set_cons_zero, List.set_cons_succ])
                                refine take_at 12 177 (.agg #[.int .i64 m1, .int .i64 m2]) rfl rfl (by kernel_rfl) (by kernel_rfl) (by kernel_rfl) (fun _ _ _ h => h) (Or.inl ⟨by rfl, ?_⟩) hHeld ?_
                                · intro w9 hSw
                                  (try dsimp only at hSw)
                                  go_simp
                                  all_goals (first | (intro h9; omega) | omega)
                                (try simp only [Act.put, List.setIfInBounds_toArray, List.set_cons_zero, List.set_cons_succ])
                                refine take_at 13 178 (.bool mb) rfl rfl (by kernel_rfl) (by kernel_rfl) (by kernel_rfl) (fun _ _ _ h => h) (Or.inl ⟨by rfl, ?_⟩) hHeld ?_
                                · intro w9 hSw
                                  (try dsimp only at hSw)
                                  go_simp
                                  all_goals (first | (intro h9; omega) | omega)
                                (try simp only [Act.put, List.setIfInBounds_toArray, List.set_cons_zero, List.set_cons_succ])
                                refine wpAnyH_ready (rs := [15]) (by kernel_rfl) (by simp) ?_
                                refine AllReadyH.cons rfl (fun K hK => ?_) ?_
                                · have hrow := HR2.out
                                  have f0 := hrow.cell 0; have f1 := hrow.cell 1
                                  simp only [List.getElem?_toArray, List.getElem?_cons_zero, List.getElem?_cons_succ] at f0 f1
                                  have g0 := hrow.frozen 0; have g1 := hrow.frozen 1
                                  have HB9 := Lib.hid ((HB2.out.setCell (p := ⟨pb, 0, none⟩) hpb (.int .i64 m1)).setCell (p := ⟨pb, 1, none⟩) hpb (.int .i64 m2))
                                  go_simp
                                  refine hK.out _ _ (HS37.out _ HB9.out) (fun hHeld => ?_)
                                  clear hK K f0 f1 g0 g1 hrow
                                  refine take_at 16 12 (.bool mb) rfl rfl (by kernel_rfl) (by kernel_rfl) (by kernel_rfl) (fun _ _ _ h => h) (Or.inl ⟨by rfl, ?_⟩) hHeld ?_
                                  · intro w9 hSw
                                    (try dsimp only at hSw)
                                    go_simp
                                    all_goals (first | (intro h9; omega) | omega)
                                  (try simp only [Act.put, List.setIfInBounds_toArray, List.set_cons_zero, List.set_cons_succ])
                                  refine wpAnyH_done (by kernel_rfl) ?_ _
                                  clear hHeld
                                  go_wp2_with fail
                                  go_meet
                                  case rel => exact ⟨rfl, HB9.out⟩
                                exact AllReadyH.nil
                              exact AllReadyH.nil
                            exact AllReadyH.nil
                          case rest =>
                            obtain ⟨rfl, HBC⟩ := hcut
                            clear HS37 C37 c7 x0 hto10 hc10
                            have HX11 := Lib.hid (HX10.out.next HBC.out)
                            have HSE11 := Lib.hid ((HSE10.out.below HBC.out).more HBC.out.size)
                            have HER : Hid (edgeR c xo i (tt : Int) q r1 = if mb = true then ⟨22, i, q, bl, ed + 1, sp + 1 + xn + lt, lg⟩ else ⟨0, bk, a1, bl, ed + 1, sp + 1 + xn + lt, lg⟩) := by
                              have h1 := HR1.out
                              subst h1
                              show _ = _
                              unfold edgeR
                              rw [Int.toNat_natCast, HCI.out, HMB.out, ← HLT.out, HXN.out]
                              rcases misP L xo with _ | p
                              · rfl
                              · rfl
                            clear HX10 HSE10 HBC
                            generalize hwcc : wc = W12 at *
                            cases mb
                            · have HMN : misP (c.i (tt : Int).toNat) xo = none := by
                                rw [Int.toNat_natCast, HCI.out]
                                have := HMB.out
                                rcases h : misP L xo with _ | p
                                · rfl
                                · rw [h] at this; cases this
                              have HLN := LpE.more HLE.out (by rw [HSL.out]; exact hqs) HTB.out HMN
                              rw [HER.out, if_neg (by decide)] at HLN
                              have HLN := Lib.hid HLN
                              go_wp2
                              go_roundg (ns - (q + 1))
                              case measure => omega
                              case rel => exact ⟨q + 1, _, by omega, by go_num, HLN.out, HX11.out, HSE11.out⟩
                            · have HMN : misP (c.i (tt : Int).toNat) xo ≠ none := by
                                rw [Int.toNat_natCast, HCI.out]
                                have := HMB.out
                                rcases h : misP L xo with _ | p
                                · rw [h] at this; cases this
                                · exact fun h => by cases h
                              have HLN := LpE.bad HLE.out (by rw [HSL.out]; exact hqs) HTB.out HMN
                              rw [HER.out, if_pos rfl] at HLN
                              have HCE : Hid (checkC c = ⟨22, i, q, bl, ed + 1, sp + 1 + xn + lt, lg⟩) := by
                                have h3 := HNX.out.2 (by rw [HLN.2]; decide)
                                show _ = _
                                rw [HCR.out, ← h3, HLN.1]
                              clear HLN HMN
                              have HCX := Lib.hid HX11.out.cr
                              have r0 := HCX.out.rr.cell 0; have r1 := HCX.out.rr.cell 1; have r2 := HCX.out.rr.cell 2; have r3 := HCX.out.rr.cell 3
                              have r4 := HCX.out.rr.cell 4; have r5 := HCX.out.rr.cell 5; have r6 := HCX.out.rr.cell 6
                              have rf := fun k => HCX.out.rr.frozen k
                              simp only [List.getElem?_toArray, List.getElem?_cons_zero, List.getElem?_cons_succ] at r0 r1 r2 r3 r4 r5 r6
                              have rf0 := rf 0; have rf1 := rf 1; have rf2 := rf 2; have rf3 := rf 3; have rf4 := rf 4; have rf5 := rf 5; have rf6 := rf 6
                              clear rf
                              have z0 := HCX.out.z.cell 0; have z1 := HCX.out.z.cell 1; have z2 := HCX.out.z.cell 2; have z3 := HCX.out.z.cell 3
                              have z4 := HCX.out.z.cell 4; have z5 := HCX.out.z.cell 5; have z6 := HCX.out.z.cell 6
                              have zf := fun k => HCX.out.z.frozen k
                              simp only [List.getElem?_toArray, List.getElem?_cons_zero, List.getElem?_cons_succ] at z0 z1 z2 z3 z4 z5 z6
                              have zf0 := zf 0; have zf1 := zf 1; have zf2 := zf 2; have zf3 := zf 3; have zf4 := zf 4; have zf5 := zf 5; have zf6 := zf 6
                              clear zf
                              go_wp2
                              have HF := ((HCX.out.put ⟨22, bk, a1, bl, ed + 1, sp + 1 + xn + lt, lg⟩ 0 (.int .i64 22) rfl).put ⟨22, i, a1, bl, ed + 1, sp + 1 + xn + lt, lg⟩ 1 (.int .i64 (i : Int)) rfl).put ⟨22, i, q, bl, ed + 1, sp + 1 + xn + lt, lg⟩ 2 (.int .i64 (q : Int)) rfl
                              (try simp only [Exit.inBlock, Exit.then])
                              refine bodyPost_ret (v := .agg #[.int .i64 (⟨22, i, q, bl, ed + 1, sp + 1 + xn + lt, lg⟩ : Rp).err, .int .i64 ((⟨22, i, q, bl, ed + 1, sp + 1 + xn + lt, lg⟩ : Rp).blk : Int), .int .i64 ((⟨22, i, q, bl, ed + 1, sp + 1 + xn + lt, lg⟩ : Rp).at_ : Int), .int .i64 ((⟨22, i, q, bl, ed + 1, sp + 1 + xn + lt, lg⟩ : Rp).blocks : Int), .int .i64 ((⟨22, i, q, bl, ed + 1, sp + 1 + xn + lt, lg⟩ : Rp).edges : Int), .int .i64 ((⟨22, i, q, bl, ed + 1, sp + 1 + xn + lt, lg⟩ : Rp).steps : Int), .int .i64 ((⟨22, i, q, bl, ed + 1, sp + 1 + xn + lt, lg⟩ : Rp).largest : Int)]) ?_ rfl ⟨?_, ?_⟩
                              · exact results_cell_row rfl _ _ (w.heap.size + 1) 37 #[.int .i64 (⟨22, i, q, bl, ed + 1, sp + 1 + xn + lt, lg⟩ : Rp).err, .int .i64 ((⟨22, i, q, bl, ed + 1, sp + 1 + xn + lt, lg⟩ : Rp).blk : Int), .int .i64 ((⟨22, i, q, bl, ed + 1, sp + 1 + xn + lt, lg⟩ : Rp).at_ : Int), .int .i64 ((⟨22, i, q, bl, ed + 1, sp + 1 + xn + lt, lg⟩ : Rp).blocks : Int), .int .i64 ((⟨22, i, q, bl, ed + 1, sp + 1 + xn + lt, lg⟩ : Rp).edges : Int), .int .i64 ((⟨22, i, q, bl, ed + 1, sp + 1 + xn + lt, lg⟩ : Rp).steps : Int), .int .i64 ((⟨22, i, q, bl, ed + 1, sp + 1 + xn + lt, lg⟩ : Rp).largest : Int)] (0, 0) _ rfl (HF.z.put7 _ _ _ _ _ _ _) Tryz.underlying37 rfl (by kernel_rfl)
                              · rw [HCE.out]
                              · exact blw7 (by omega) HF.blw _ _ _ _ _ _ _
                        · have hqz : ¬ (q : Int) < (ns : Int) := by omega
                          obtain rfl : q = ns := by omega
                          rw [HNS.out, ← HSL.out] at HLE
                          have HLN := Lib.hid (LpE.back HLE.out HLB.out hib)
                          go_wp2
                          go_roundg (k - (i + 1))
                          case measure => omega
                          case rel => exact ⟨i + 1, r, by omega, by go_num, HLN.out, HX.out.cr⟩
                    · have dxe : (xe != 0) = true := by simp [hxe]
                      have HCE : Hid (checkC c = ⟨xe, i, xat, blocks + 1, edges, steps + xst, mxl⟩) := by
                        have h1 := HBK.out
                        rw [if_neg hxe, HVS.out] at h1
                        dsimp only at h1
                        rw [if_neg hxe, if_neg hxe] at h1
                        have h2 := HR0.out
                        have h3 := HNX.out.2 (by rw [h1]; exact hxe)
                        show _ = _
                        rw [HCR.out, ← h3, h1, HML.out]
                        subst h2
                        rfl
                      have r0 := HCX.out.rr.cell 0; have r1 := HCX.out.rr.cell 1; have r2 := HCX.out.rr.cell 2; have r3 := HCX.out.rr.cell 3
                      have r4 := HCX.out.rr.cell 4; have r5 := HCX.out.rr.cell 5; have r6 := HCX.out.rr.cell 6
                      have rf := fun k => HCX.out.rr.frozen k
                      simp only [List.getElem?_toArray, List.getElem?_cons_zero, List.getElem?_cons_succ] at r0 r1 r2 r3 r4 r5 r6
                      have rf0 := rf 0; have rf1 := rf 1; have rf2 := rf 2; have rf3 := rf 3; have rf4 := rf 4; have rf5 := rf 5; have rf6 := rf 6
                      clear rf
                      have z0 := HCX.out.z.cell 0; have z1 := HCX.out.z.cell 1; have z2 := HCX.out.z.cell 2; have z3 := HCX.out.z.cell 3
                      have z4 := HCX.out.z.cell 4; have z5 := HCX.out.z.cell 5; have z6 := HCX.out.z.cell 6
                      have zf := fun k => HCX.out.z.frozen k
                      simp only [List.getElem?_toArray, List.getElem?_cons_zero, List.getElem?_cons_succ] at z0 z1 z2 z3 z4 z5 z6
                      have zf0 := zf 0; have zf1 := zf 1; have zf2 := zf 2; have zf3 := zf 3; have zf4 := zf 4; have zf5 := zf 5; have zf6 := zf 6
                      clear zf
                      go_wp2
                      have HF := ((HCX.out.put ⟨xe, blk, at1, blocks + 1, edges, steps + xst, mxl⟩ 0 (.int .i64 xe) rfl).put ⟨xe, i, at1, blocks + 1, edges, steps + xst, mxl⟩ 1 (.int .i64 (i : Int)) rfl).put ⟨xe, i, xat, blocks + 1, edges, steps + xst, mxl⟩ 2 (.int .i64 (xat : Int)) rfl
                      (try simp only [Exit.inBlock, Exit.then])
                      refine bodyPost_ret (v := .agg #[.int .i64 (⟨xe, i, xat, blocks + 1, edges, steps + xst, mxl⟩ : Rp).err, .int .i64 ((⟨xe, i, xat, blocks + 1, edges, steps + xst, mxl⟩ : Rp).blk : Int), .int .i64 ((⟨xe, i, xat, blocks + 1, edges, steps + xst, mxl⟩ : Rp).at_ : Int), .int .i64 ((⟨xe, i, xat, blocks + 1, edges, steps + xst, mxl⟩ : Rp).blocks : Int), .int .i64 ((⟨xe, i, xat, blocks + 1, edges, steps + xst, mxl⟩ : Rp).edges : Int), .int .i64 ((⟨xe, i, xat, blocks + 1, edges, steps + xst, mxl⟩ : Rp).steps : Int), .int .i64 ((⟨xe, i, xat, blocks + 1, edges, steps + xst, mxl⟩ : Rp).largest : Int)]) ?_ rfl ⟨?_, ?_⟩
                      · exact results_cell_row rfl _ _ (w.heap.size + 1) 37 #[.int .i64 (⟨xe, i, xat, blocks + 1, edges, steps + xst, mxl⟩ : Rp).err, .int .i64 ((⟨xe, i, xat, blocks + 1, edges, steps + xst, mxl⟩ : Rp).blk : Int), .int .i64 ((⟨xe, i, xat, blocks + 1, edges, steps + xst, mxl⟩ : Rp).at_ : Int), .int .i64 ((⟨xe, i, xat, blocks + 1, edges, steps + xst, mxl⟩ : Rp).blocks : Int), .int .i64 ((⟨xe, i, xat, blocks + 1, edges, steps + xst, mxl⟩ : Rp).edges : Int), .int .i64 ((⟨xe, i, xat, blocks + 1, edges, steps + xst, mxl⟩ : Rp).steps : Int), .int .i64 ((⟨xe, i, xat, blocks + 1, edges, steps + xst, mxl⟩ : Rp).largest : Int)] (0, 0) _ rfl (HF.z.put7 _ _ _ _ _ _ _) Tryz.underlying37 rfl (by kernel_rfl)
                      · rw [HCE.out]
                      · exact blw7 (by omega) HF.blw _ _ _ _ _ _ _
              · have hiz : ¬ (i : Int) < (k : Int) := by omega
                obtain rfl : i = k := by omega
                have HCE : Hid (checkC c = r) := by
                  have h1 := HLB.out.rest
                  rw [HNB.out, Nat.sub_self] at h1
                  show _ = _
                  rw [HCR.out, HNB.out, ← h1]
                  rfl
                have c0 := HR.out.row.cell 0; have c1 := HR.out.row.cell 1; have c2 := HR.out.row.cell 2; have c3 := HR.out.row.cell 3
                have c4 := HR.out.row.cell 4; have c5 := HR.out.row.cell 5; have c6 := HR.out.row.cell 6; have c7 := HR.out.row.cell 7
                simp only [List.getElem?_toArray, List.getElem?_cons_zero, List.getElem?_cons_succ] at c0 c1 c2 c3 c4 c5 c6 c7
                rw [HNB.out] at c2
                have r0 := HR.out.rr.cell 0; have r1 := HR.out.rr.cell 1; have r2 := HR.out.rr.cell 2; have r3 := HR.out.rr.cell 3
                have r4 := HR.out.rr.cell 4; have r5 := HR.out.rr.cell 5; have r6 := HR.out.rr.cell 6
                have rf := fun k => HR.out.rr.frozen k
                simp only [List.getElem?_toArray, List.getElem?_cons_zero, List.getElem?_cons_succ] at r0 r1 r2 r3 r4 r5 r6
                have rf0 := rf 0; have rf1 := rf 1; have rf2 := rf 2; have rf3 := rf 3; have rf4 := rf 4; have rf5 := rf 5; have rf6 := rf 6
                clear rf
                have z0 := HR.out.z.cell 0; have z1 := HR.out.z.cell 1; have z2 := HR.out.z.cell 2; have z3 := HR.out.z.cell 3
                have z4 := HR.out.z.cell 4; have z5 := HR.out.z.cell 5; have z6 := HR.out.z.cell 6
                have zf := fun k => HR.out.z.frozen k
                simp only [List.getElem?_toArray, List.getElem?_cons_zero, List.getElem?_cons_succ] at z0 z1 z2 z3 z4 z5 z6
                have zf0 := zf 0; have zf1 := zf 1; have zf2 := zf 2; have zf3 := zf 3; have zf4 := zf 4; have zf5 := zf 5; have zf6 := zf 6
                clear zf
                go_wp2
                (try simp only [Exit.inBlock, Exit.then])
                refine bodyPost_ret (v := .agg #[.int .i64 r.err, .int .i64 (r.blk : Int), .int .i64 (r.at_ : Int), .int .i64 (r.blocks : Int), .int .i64 (r.edges : Int), .int .i64 (r.steps : Int), .int .i64 (r.largest : Int)]) ?_ rfl ⟨?_, ?_⟩
                · exact results_cell_row rfl _ _ (w.heap.size + 1) 37 #[.int .i64 r.err, .int .i64 (r.blk : Int), .int .i64 (r.at_ : Int), .int .i64 (r.blocks : Int), .int .i64 (r.edges : Int), .int .i64 (r.steps : Int), .int .i64 (r.largest : Int)] (0, 0) _ rfl (HR.out.z.put7 _ _ _ _ _ _ _) Tryz.underlying37 rfl (by kernel_rfl)
                · rw [HCE.out]
                · exact blw7 (by omega) HR.out.blw _ _ _ _ _ _ _
  · have d0 : (ev != 0) = true := by simp [h0]
    have HCC : Hid (checkC c = ⟨ev, 0, 0, 0, 0, 0, 0⟩) := by show _ = _; rw [checkC_bad (by rw [← HEV.out]; exact h0), ← HEV.out]
    clear h0
    have r0 := HR1.out.rr.cell 0; have r1 := HR1.out.rr.cell 1; have r2 := HR1.out.rr.cell 2; have r3 := HR1.out.rr.cell 3
    have r4 := HR1.out.rr.cell 4; have r5 := HR1.out.rr.cell 5; have r6 := HR1.out.rr.cell 6
    have rf := fun k => HR1.out.rr.frozen k
    simp only [List.getElem?_toArray, List.getElem?_cons_zero, List.getElem?_cons_succ] at r0 r1 r2 r3 r4 r5 r6
    have rf0 := rf 0; have rf1 := rf 1; have rf2 := rf 2; have rf3 := rf 3; have rf4 := rf 4; have rf5 := rf 5; have rf6 := rf 6
    clear rf
    have z0 := HR1.out.z.cell 0; have z1 := HR1.out.z.cell 1; have z2 := HR1.out.z.cell 2; have z3 := HR1.out.z.cell 3
    have z4 := HR1.out.z.cell 4; have z5 := HR1.out.z.cell 5; have z6 := HR1.out.z.cell 6
    have zf := fun k => HR1.out.z.frozen k
    simp only [List.getElem?_toArray, List.getElem?_cons_zero, List.getElem?_cons_succ] at z0 z1 z2 z3 z4 z5 z6
    have zf0 := zf 0; have zf1 := zf 1; have zf2 := zf 2; have zf3 := zf 3; have zf4 := zf 4; have zf5 := zf 5; have zf6 := zf 6
    clear zf
    go_wp2
    have HF := HR1.out.put ⟨ev, 0, 0, 0, 0, 0, 0⟩ 0 (.int .i64 ev) rfl
    (try simp only [Exit.inBlock, Exit.then])
    refine bodyPost_ret (v := .agg #[.int .i64 (⟨ev, 0, 0, 0, 0, 0, 0⟩ : Rp).err, .int .i64 ((⟨ev, 0, 0, 0, 0, 0, 0⟩ : Rp).blk : Int), .int .i64 ((⟨ev, 0, 0, 0, 0, 0, 0⟩ : Rp).at_ : Int), .int .i64 ((⟨ev, 0, 0, 0, 0, 0, 0⟩ : Rp).blocks : Int), .int .i64 ((⟨ev, 0, 0, 0, 0, 0, 0⟩ : Rp).edges : Int), .int .i64 ((⟨ev, 0, 0, 0, 0, 0, 0⟩ : Rp).steps : Int), .int .i64 ((⟨ev, 0, 0, 0, 0, 0, 0⟩ : Rp).largest : Int)]) ?_ rfl ⟨?_, ?_⟩
    · exact results_cell_row rfl _ _ (w.heap.size + 1) 37 #[.int .i64 (⟨ev, 0, 0, 0, 0, 0, 0⟩ : Rp).err, .int .i64 ((⟨ev, 0, 0, 0, 0, 0, 0⟩ : Rp).blk : Int), .int .i64 ((⟨ev, 0, 0, 0, 0, 0, 0⟩ : Rp).at_ : Int), .int .i64 ((⟨ev, 0, 0, 0, 0, 0, 0⟩ : Rp).blocks : Int), .int .i64 ((⟨ev, 0, 0, 0, 0, 0, 0⟩ : Rp).edges : Int), .int .i64 ((⟨ev, 0, 0, 0, 0, 0, 0⟩ : Rp).steps : Int), .int .i64 ((⟨ev, 0, 0, 0, 0, 0, 0⟩ : Rp).largest : Int)] (0, 0) _ rfl (HF.z.put7 _ _ _ _ _ _ _) Tryz.underlying37 rfl (by kernel_rfl)
    · rw [HCC.out]
    · exact blw7 (by omega) HF.blw _ _ _ _ _ _ _

end Go.Proofs.YtapdheabblgbaaaGreat
