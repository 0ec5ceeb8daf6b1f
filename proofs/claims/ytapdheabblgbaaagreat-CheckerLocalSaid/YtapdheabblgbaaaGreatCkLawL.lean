/-
  The walk of the statement on single blocks (two regions of it are written by wip/lab/genckloc.py).
-/
import Derived.Test.YtapdheabblgbaaaGreatCkAwk
import Derived.Test.YtapdheabblgbaaaGreatCkXl
import Derived.Test.YtapdheabblgbaaaGreatBcRef
import Derived.Test.YtapdheabblgbaaaGreatSucOwn
import Derived.Test.YtapdheabblgbaaaGreatPk3
import Derived.Test.YtapdheabblgbaaaGreatPk1
import Derived.Deep.Cut
import Derived.Deep.CutRange
import Derived.BigRegion
namespace Go.Proofs.YtapdheabblgbaaaGreat
open Go.RowKit
set_option linter.unusedVariables false
set_option linter.unusedSimpArgs false

set_option maxRecDepth 100000 in
set_option maxHeartbeats 16000000 in
theorem CheckerLocal_walk (a0 : Array Value) (w : World) (w0 : IsCert w a0) :
    Calls Tryz.prog 6 #[.agg a0] w fun e w' => e = .returned (.bool true) ∧ Below w.heap.size w w' := by
  have mixed : Tryz.prog.follows .mixedOrders = true := by kernel_rfl
  obtain ⟨c, A1, k1, A2, k2, A3, k3, rfl, hce, hwf⟩ := w0
  have AW : Hid (∀ W, Calls Tryz.prog 9 #[] W fun e w' => e = .returned (.bool true) ∧ Below W.heap.size W w') := fun W => ckawake_any W
  have HK := Lib.hid (CeK.start hce)
  have HWF := Lib.hid hwf
  have hm1 : c.bs.length ≤ 9223372036854775807 := by have := hce.l1; unfold maxLen at this; omega
  clear hce hwf
  go_enter Tryz.func6, Tryz.ntmps6
  go_upto_region 1 with fail
  have hz0 : w.heap.size < (w.alloc (.cells #[.int .i64 c.sa, .int .i64 c.sr, .slice A1 c.bs.length k1, .int .i64 c.ta, .int .i64 c.tr, .int .i64 c.ts, .slice A2 c.ms.length k2, .slice A3 c.inv.length k3] 30)).heap.size := by simp
  generalize (w.alloc (.cells #[.int .i64 c.sa, .int .i64 c.sr, .slice A1 c.bs.length k1, .int .i64 c.ta, .int .i64 c.tr, .int .i64 c.ts, .slice A2 c.ms.length k2, .slice A3 c.inv.length k3] 30)) = W0 at *
  go_wp2_with fail
  refine (AW.out _).mono ?_
  rintro e W1 ⟨rfl, hb⟩
  have HK1 := Lib.hid (HK.out.next hb)
  clear hb HK hz0
  have c0 := HK1.out.row.cell 0; have c1 := HK1.out.row.cell 1; have c2 := HK1.out.row.cell 2; have c3 := HK1.out.row.cell 3
  have c4 := HK1.out.row.cell 4; have c5 := HK1.out.row.cell 5; have c6 := HK1.out.row.cell 6; have c7 := HK1.out.row.cell 7
  simp only [List.getElem?_toArray, List.getElem?_cons_zero, List.getElem?_cons_succ] at c0 c1 c2 c3 c4 c5 c6 c7
  go_wp2_with fail
  refine (rckfew_any W1 (HK1.out.see.more HK1.out.blw.size)).mono ?_
  rintro e W2 ⟨⟨b, rfl, hF⟩, hb⟩
  have HK2 := Lib.hid (HK1.out.next hb)
  clear hb HK1
  clear c0 c1 c2 c3 c4 c5 c6 c7
  cases b
  · go_wp2_with fail
    refine (AW.out _).mono ?_
    rintro e W9 ⟨rfl, hb⟩
    have HZ := Lib.hid (HK2.out.next hb)
    clear hb HK2
    go_wp2
    go_ret
    exact ⟨rfl, HZ.out.blw⟩
  · have HSM := Lib.hid (hF rfl)
    clear hF
    have c0 := HK2.out.row.cell 0; have c1 := HK2.out.row.cell 1; have c2 := HK2.out.row.cell 2; have c3 := HK2.out.row.cell 3
    have c4 := HK2.out.row.cell 4; have c5 := HK2.out.row.cell 5; have c6 := HK2.out.row.cell 6; have c7 := HK2.out.row.cell 7
    simp only [List.getElem?_toArray, List.getElem?_cons_zero, List.getElem?_cons_succ] at c0 c1 c2 c3 c4 c5 c6 c7
    go_wp2_with fail
    refine (rckvalid_any W2 (HK2.out.see.more HK2.out.blw.size) HSM.out HWF.out).mono ?_
    rintro e W3 ⟨rfl, hb⟩
    clear c0 c1 c2 c3 c4 c5 c6 c7
    have HK3 := Lib.hid (HK2.out.next hb)
    clear hb HK2
    by_cases hv : validC c = 0
    · have hv1 : (validC c != 0) = false := by simp [hv]
      obtain ⟨N, n, m, hfit⟩ := fitC_of hv HSM.out HWF.out
      have HFT := Lib.hid hfit
      have HLOC := Lib.hid (checkC_local hv)
      obtain ⟨k, hk⟩ : ∃ z, z = c.bs.length := ⟨_, rfl⟩
      have HNB : Hid (c.bs.length = k) := hk.symm
      have HNM : Hid (c.ms.length = k) := by show _ = _; rw [← hfit.len, hk]
      have HNW : Hid (k = c.inv.length) := by show _ = _; rw [hfit.ilen, hk]
      have hk40 : k ≤ 40 := by rw [hk]; exact hfit.b40
      have hk0 : 0 < k := by rw [hk]; exact hfit.pos
      have HL40 : Hid (∀ l ∈ c.inv, l.length ≤ 400) := fun l hl => (HFT.out.inv l hl).2.1
      generalize hvc : validC c = vc at *
      clear hfit hk hvc hv
      obtain ⟨b, o, Ai0, ci0, rfl, hbw, _⟩ := HK3.out.see.inv.at_ (show 0 < c.inv.length by rw [← HNW.out]; exact hk0)
      go_wp2
      go_loopg [3, 4] k (fun g s3 s4 wr => ∃ (i : Nat) (ok : Bool), i + g = k ∧ s3 = .bool ok ∧ s4 = .int .i64 (i : Int) ∧ Hid (ok = okL c i) ∧ Hid (CeK w w.heap.size A1 k1 A2 k2 (some ⟨b, o, none⟩) k3 c wr))
      case atStart => exact ⟨0, true, by omega, rfl, rfl, rfl, HK3.out⟩
      case round =>
        clear HK3
        obtain ⟨i, ok, hgi, rfl, rfl, HOK, HR⟩ := hrel
        by_cases hi : i < k
        · have hiz : (i : Int) < (k : Int) := by omega
          have hib : i < c.bs.length := by rw [HNB.out]; exact hi
          have him : i < c.ms.length := by rw [HNM.out]; exact hi
          have hii : i < c.inv.length := by rw [← HNW.out]; exact hi
          obtain ⟨b1, o1, rfl, hb1, hB1⟩ := HR.out.see.bs.at_ hib
          obtain ⟨b2, o2, rfl, hb2, hB2⟩ := HR.out.see.ms.at_ him
          obtain ⟨b3, o3, Ai, ci, e3, hb3, hc3, hci3, hcm3, hs3⟩ := HR.out.see.inv.at_ hii
          injection e3 with e3
          injection e3 with e3 e4
          subst e3 e4
          obtain ⟨Ac, cc1, hq10, hq1l, hq1m, hq1i⟩ := hB1.code
          obtain ⟨Am, cm1, hq20, hq2l, hq2m, hq2i⟩ := hB2.code
          obtain ⟨X, hX⟩ : ∃ z, z = ckB c i := ⟨_, rfl⟩
          have hXE : X = checkE c.bs[i].code c.ms[i].code c.bs[i].term c.ms[i].term (tmP c.bs[i].term c.ms[i].term) c.inv[i] 1048576 := by rw [hX]; unfold ckB; rw [blkAt_lt hib, mblkAt_lt him, Ct.i_lt hii]
          have hops : ∀ rows, Chn c.bs[i].code c.ms[i].code 0 0 rows → ∀ e ∈ blkOps c.bs[i].code c.ms[i].code rows c.bs[i].term c.ms[i].term, e.In rg60 lc120 := by
            have := HFT.out.ops hib
            rw [blkAt_lt hib, mblkAt_lt him] at this
            exact this
          obtain ⟨hv1, hv2, hv3, hv4⟩ := HFT.out.inv _ (List.getElem_mem hii)
          have hl1 : c.bs[i].code.length ≤ 300 := Nat.le_trans (codeN_mem c.bs i hib) HFT.out.code
          have hl2 : c.ms[i].code.length ≤ 900 := Nat.le_trans (mcodeN_mem c.ms i him) HFT.out.mcode
          have C21 : Hid (∀ V, Below wr.heap.size wr V → Calls Tryz.prog 18 #[.agg #[.slice Ac c.bs[i].code.length cc1, .int .i64 c.bs[i].term.kind, .int .i64 c.bs[i].term.a, .int .i64 c.bs[i].term.to, .int .i64 c.bs[i].term.el], .agg #[.slice Am c.ms[i].code.length cm1, .int .i64 c.ms[i].term.kind, .int .i64 c.ms[i].term.a, .int .i64 c.ms[i].term.to, .int .i64 c.ms[i].term.el], .slice Ai c.inv[i].length ci, .int .i64 1048576] V fun x w' => ∃ A' c', x = .returned (.agg #[.slice A' X.out.length c', .int .i64 X.err, .int .i64 (X.at_ : Int), .int .i64 (X.steps : Int), .int .i64 (X.largest : Int)]) ∧ PL V (.slice A' X.out.length c') X.out w') := fun V hV => by
            rw [hXE]
            have hz := Nat.le_trans HR.out.blw.size hV.size
            have hV' := hV.mono HR.out.blw.size
            exact rblk_any ⟨rfl, hq1l, hq1m, (hq1i.below hV').more hz⟩ ⟨rfl, hq2l, hq2m, (hq2i.below hV').more hz⟩ ((hs3.below hV').more hz) hv1 hv4 room120 (by omega) (by omega) (by omega) hops (HFT.out.ft.ins _ (List.getElem_mem him)) (by have := HFT.out.hn; omega) ((HFT.out.ft.tm _ (List.getElem_mem him)).mono (by have := HFT.out.b40; have := HFT.out.len; omega))
          have F10 := Lib.hid hq10; have F11 := Lib.hid hB1.t0; have F12 := Lib.hid hB1.t1; have F13 := Lib.hid hB1.t2; have F14 := Lib.hid hB1.t3
          have F20 := Lib.hid hq20; have F21 := Lib.hid hB2.t0; have F22 := Lib.hid hB2.t1; have F23 := Lib.hid hB2.t2; have F24 := Lib.hid hB2.t3
          have F3 := Lib.hid hc3
          have HSU : Hid (succs (blkAt c.bs i).term = succs c.bs[i].term) := by show _ = _; rw [blkAt_lt hib]
          clear hq10 hq1l hq1m hq1i hq20 hq2l hq2m hq2i hB1 hB2 hc3 hci3 hcm3 hs3 hXE hops hv1 hv2 hv3 hv4
          have HX := Lib.hid hX
          clear hX
          generalize c.bs[i].term = bt at *
          generalize c.ms[i].term = mt at *
          generalize c.bs[i].code.length = lc at *
          generalize c.ms[i].code.length = lm at *
          generalize c.inv[i].length = li at *
          have c0 := HR.out.row.cell 0; have c1 := HR.out.row.cell 1; have c2 := HR.out.row.cell 2; have c3 := HR.out.row.cell 3
          have c4 := HR.out.row.cell 4; have c5 := HR.out.row.cell 5; have c6 := HR.out.row.cell 6; have c7 := HR.out.row.cell 7
          simp only [List.getElem?_toArray, List.getElem?_cons_zero, List.getElem?_cons_succ] at c0 c1 c2 c3 c4 c5 c6 c7
          rw [← HNW.out] at c7
          rw [HNB.out] at c2
          rw [HNM.out] at c6
          go_upto_region 7 with fail
          clear c0 c1 c2 c3 c4 c5 c6 c7
          have HS21 : Hid (∀ V, CeK w w.heap.size (some ⟨b1, o1, none⟩) k1 (some ⟨b2, o2, none⟩) k2 (some ⟨b, o, none⟩) k3 c V → Below w.heap.size wr V → (V.cell? ⟨w.heap.size, 2, none⟩ = some (.slice (some ⟨b1, o1, none⟩) k k1) ∧ V.cell? ⟨w.heap.size, 6, none⟩ = some (.slice (some ⟨b2, o2, none⟩) k k2) ∧ V.cell? ⟨w.heap.size, 7, none⟩ = some (.slice (some ⟨b, o, none⟩) k k3)) ∧ (V.cell? ⟨b1, o1 + i * 5, none⟩ = some (.slice Ac lc cc1) ∧ V.cell? ⟨b1, o1 + i * 5 + 1, none⟩ = some (.int .i64 bt.kind) ∧ V.cell? ⟨b1, o1 + i * 5 + 2, none⟩ = some (.int .i64 bt.a) ∧ V.cell? ⟨b1, o1 + i * 5 + 3, none⟩ = some (.int .i64 bt.to) ∧ V.cell? ⟨b1, o1 + i * 5 + 4, none⟩ = some (.int .i64 bt.el)) ∧ (V.cell? ⟨b2, o2 + i * 5, none⟩ = some (.slice Am lm cm1) ∧ V.cell? ⟨b2, o2 + i * 5 + 1, none⟩ = some (.int .i64 mt.kind) ∧ V.cell? ⟨b2, o2 + i * 5 + 2, none⟩ = some (.int .i64 mt.a) ∧ V.cell? ⟨b2, o2 + i * 5 + 3, none⟩ = some (.int .i64 mt.to) ∧ V.cell? ⟨b2, o2 + i * 5 + 4, none⟩ = some (.int .i64 mt.el)) ∧ V.cell? ⟨b, o + i, none⟩ = some (.slice Ai li ci)) := fun V h hbV =>
            ⟨⟨(h.row.cell 2).trans (by rw [← HNB.out]; rfl), (h.row.cell 6).trans (by rw [← HNM.out]; rfl), (h.row.cell 7).trans (by rw [HNW.out]; rfl)⟩, ⟨(hbV.cell hb1).trans F10.out, (hbV.cell hb1).trans F11.out, (hbV.cell hb1).trans F12.out, (hbV.cell hb1).trans F13.out, (hbV.cell hb1).trans F14.out⟩, ⟨(hbV.cell hb2).trans F20.out, (hbV.cell hb2).trans F21.out, (hbV.cell hb2).trans F22.out, (hbV.cell hb2).trans F23.out, (hbV.cell hb2).trans F24.out⟩, (hbV.cell hb3).trans F3.out⟩
          go_cut [5] from 32 to 49 (fun s8 wx => ∃ xb A cc, s8 = .pointer (some ⟨xb, 0, none⟩) ∧ Hid (Below w.heap.size wr wx) ∧ Hid (XL w (some ⟨b1, o1, none⟩) k1 (some ⟨b2, o2, none⟩) k2 (some ⟨b, o, none⟩) k3 c xb 52 A cc X wx))
          case first =>
            go_wp2_with fail
            refine wp_region_held_drew (S := fun w' => (w'.cell? ⟨w.heap.size, 2, none⟩ = some (.slice (some ⟨b1, o1, none⟩) k k1) ∧ w'.cell? ⟨w.heap.size, 6, none⟩ = some (.slice (some ⟨b2, o2, none⟩) k k2) ∧ w'.cell? ⟨w.heap.size, 7, none⟩ = some (.slice (some ⟨b, o, none⟩) k k3)) ∧ (w'.cell? ⟨b1, o1 + i * 5, none⟩ = some (.slice Ac lc cc1) ∧ w'.cell? ⟨b1, o1 + i * 5 + 1, none⟩ = some (.int .i64 bt.kind) ∧ w'.cell? ⟨b1, o1 + i * 5 + 2, none⟩ = some (.int .i64 bt.a) ∧ w'.cell? ⟨b1, o1 + i * 5 + 3, none⟩ = some (.int .i64 bt.to) ∧ w'.cell? ⟨b1, o1 + i * 5 + 4, none⟩ = some (.int .i64 bt.el)) ∧ (w'.cell? ⟨b2, o2 + i * 5, none⟩ = some (.slice Am lm cm1) ∧ w'.cell? ⟨b2, o2 + i * 5 + 1, none⟩ = some (.int .i64 mt.kind) ∧ w'.cell? ⟨b2, o2 + i * 5 + 2, none⟩ = some (.int .i64 mt.a) ∧ w'.cell? ⟨b2, o2 + i * 5 + 3, none⟩ = some (.int .i64 mt.to) ∧ w'.cell? ⟨b2, o2 + i * 5 + 4, none⟩ = some (.int .i64 mt.el)) ∧ w'.cell? ⟨b, o + i, none⟩ = some (.slice Ai li ci)) (by kernel_rfl) (HS21.out _ HR.out.drew (Below.refl _ _).drew) (fun hHeld => ?_)
            have HV0 := Lib.hid HR.out.drew
            have HB0 : Hid (Below w.heap.size wr wr.drew) := (Below.refl _ _).drew
            have HC0 : Hid (Below wr.heap.size wr wr.drew) := (Below.refl _ _).drew
            clear HR
            generalize hVV : wr.drew = V0 at *
            clear hVV
            refine take_at 0 32 (.pointer (some ⟨w.heap.size, 0, none⟩)) rfl rfl (by kernel_rfl) (by kernel_rfl) (by kernel_rfl) (fun _ _ _ h => h) (Or.inl ⟨by rfl, ?_⟩) hHeld ?_
            · intro w9 hSw
              (try dsimp only at hSw)
              go_simp
              all_goals (first | (intro h9; omega) | omega)
            (try simp only [Act.put, List.setIfInBounds_toArray, List.set_cons_zero, List.set_cons_succ])
            refine take_at 1 33 (.pointer (some ⟨w.heap.size, 2, none⟩)) rfl rfl (by kernel_rfl) (by kernel_rfl) (by kernel_rfl) (fun _ _ _ h => h) (Or.inl ⟨by rfl, ?_⟩) hHeld ?_
            · intro w9 hSw
              (try dsimp only at hSw)
              go_simp
              all_goals (first | (intro h9; omega) | omega)
            (try simp only [Act.put, List.setIfInBounds_toArray, List.set_cons_zero, List.set_cons_succ])
            refine take_at 2 34 (.slice (some ⟨b1, o1, none⟩) k k1) rfl rfl (by kernel_rfl) (by kernel_rfl) (by kernel_rfl) (fun _ _ _ h => h) (Or.inl ⟨by rfl, ?_⟩) hHeld ?_
            · intro w9 hSw
              (try dsimp only at hSw)
              go_simp
              all_goals (first | (intro h9; omega) | omega)
            (try simp only [Act.put, List.setIfInBounds_toArray, List.set_cons_zero, List.set_cons_succ])
            refine take_at 3 35 (.int .i64 i) rfl rfl (by kernel_rfl) (by kernel_rfl) (by kernel_rfl) (fun _ _ _ h => h) (Or.inl ⟨by rfl, ?_⟩) hHeld ?_
            · intro w9 hSw
              (try dsimp only at hSw)
              go_simp
              all_goals (first | (intro h9; omega) | omega)
            (try simp only [Act.put, List.setIfInBounds_toArray, List.set_cons_zero, List.set_cons_succ])
            refine take_at 4 36 (.pointer (some ⟨b1, o1 + i * 5, none⟩)) rfl rfl (by kernel_rfl) (by kernel_rfl) (by kernel_rfl) (fun _ _ _ h => h) (Or.inl ⟨by rfl, ?_⟩) hHeld ?_
            · intro w9 hSw
              (try dsimp only at hSw)
              go_simp
              all_goals (first | (intro h9; omega) | omega)
            (try simp only [Act.put, List.setIfInBounds_toArray, List.set_cons_zero, List.set_cons_succ])
            refine take_at 5 37 (.agg #[.slice Ac lc cc1, .int .i64 bt.kind, .int .i64 bt.a, .int .i64 bt.to, .int .i64 bt.el]) rfl rfl (by kernel_rfl) (by kernel_rfl) (by kernel_rfl) (fun _ _ _ h => h) (Or.inl ⟨by rfl, ?_⟩) hHeld ?_
            · intro w9 hSw
              (try dsimp only at hSw)
              go_simp
              all_goals (first | (intro h9; omega) | omega)
            (try simp only [Act.put, List.setIfInBounds_toArray, List.set_cons_zero, List.set_cons_succ])
            refine take_at 6 38 (.pointer (some ⟨w.heap.size, 3, none⟩)) rfl rfl (by kernel_rfl) (by kernel_rfl) (by kernel_rfl) (fun _ _ _ h => h) (Or.inl ⟨by rfl, ?_⟩) hHeld ?_
            · intro w9 hSw
              (try dsimp only at hSw)
              go_simp
              all_goals (first | (intro h9; omega) | omega)
            (try simp only [Act.put, List.setIfInBounds_toArray, List.set_cons_zero, List.set_cons_succ])
            refine take_at 7 39 (.pointer (some ⟨w.heap.size, 6, none⟩)) rfl rfl (by kernel_rfl) (by kernel_rfl) (by kernel_rfl) (fun _ _ _ h => h) (Or.inl ⟨by rfl, ?_⟩) hHeld ?_
            · intro w9 hSw
              (try dsimp only at hSw)
              go_simp
              all_goals (first | (intro h9; omega) | omega)
            (try simp only [Act.put, List.setIfInBounds_toArray, List.set_cons_zero, List.set_cons_succ])
            refine take_at 8 40 (.slice (some ⟨b2, o2, none⟩) k k2) rfl rfl (by kernel_rfl) (by kernel_rfl) (by kernel_rfl) (fun _ _ _ h => h) (Or.inl ⟨by rfl, ?_⟩) hHeld ?_
            · intro w9 hSw
              (try dsimp only at hSw)
              go_simp
              all_goals (first | (intro h9; omega) | omega)
            (try simp only [Act.put, List.setIfInBounds_toArray, List.set_cons_zero, List.set_cons_succ])
            refine take_at 9 41 (.int .i64 i) rfl rfl (by kernel_rfl) (by kernel_rfl) (by kernel_rfl) (fun _ _ _ h => h) (Or.inl ⟨by rfl, ?_⟩) hHeld ?_
            · intro w9 hSw
              (try dsimp only at hSw)
              go_simp
              all_goals (first | (intro h9; omega) | omega)
            (try simp only [Act.put, List.setIfInBounds_toArray, List.set_cons_zero, List.set_cons_succ])
            refine take_at 10 42 (.pointer (some ⟨b2, o2 + i * 5, none⟩)) rfl rfl (by kernel_rfl) (by kernel_rfl) (by kernel_rfl) (fun _ _ _ h => h) (Or.inl ⟨by rfl, ?_⟩) hHeld ?_
            · intro w9 hSw
              (try dsimp only at hSw)
              go_simp
              all_goals (first | (intro h9; omega) | omega)
            (try simp only [Act.put, List.setIfInBounds_toArray, List.set_cons_zero, List.set_cons_succ])
            refine take_at 11 43 (.agg #[.slice Am lm cm1, .int .i64 mt.kind, .int .i64 mt.a, .int .i64 mt.to, .int .i64 mt.el]) rfl rfl (by kernel_rfl) (by kernel_rfl) (by kernel_rfl) (fun _ _ _ h => h) (Or.inl ⟨by rfl, ?_⟩) hHeld ?_
            · intro w9 hSw
              (try dsimp only at hSw)
              go_simp
              all_goals (first | (intro h9; omega) | omega)
            (try simp only [Act.put, List.setIfInBounds_toArray, List.set_cons_zero, List.set_cons_succ])
            refine take_at 12 44 (.pointer (some ⟨w.heap.size, 7, none⟩)) rfl rfl (by kernel_rfl) (by kernel_rfl) (by kernel_rfl) (fun _ _ _ h => h) (Or.inl ⟨by rfl, ?_⟩) hHeld ?_
            · intro w9 hSw
              (try dsimp only at hSw)
              go_simp
              all_goals (first | (intro h9; omega) | omega)
            (try simp only [Act.put, List.setIfInBounds_toArray, List.set_cons_zero, List.set_cons_succ])
            refine take_at 13 45 (.slice (some ⟨b, o, none⟩) k k3) rfl rfl (by kernel_rfl) (by kernel_rfl) (by kernel_rfl) (fun _ _ _ h => h) (Or.inl ⟨by rfl, ?_⟩) hHeld ?_
            · intro w9 hSw
              (try dsimp only at hSw)
              go_simp
              all_goals (first | (intro h9; omega) | omega)
            (try simp only [Act.put, List.setIfInBounds_toArray, List.set_cons_zero, List.set_cons_succ])
            refine take_at 14 46 (.int .i64 i) rfl rfl (by kernel_rfl) (by kernel_rfl) (by kernel_rfl) (fun _ _ _ h => h) (Or.inl ⟨by rfl, ?_⟩) hHeld ?_
            · intro w9 hSw
              (try dsimp only at hSw)
              go_simp
              all_goals (first | (intro h9; omega) | omega)
            (try simp only [Act.put, List.setIfInBounds_toArray, List.set_cons_zero, List.set_cons_succ])
            refine take_at 15 47 (.pointer (some ⟨b, o + i, none⟩)) rfl rfl (by kernel_rfl) (by kernel_rfl) (by kernel_rfl) (fun _ _ _ h => h) (Or.inl ⟨by rfl, ?_⟩) hHeld ?_
            · intro w9 hSw
              (try dsimp only at hSw)
              go_simp
              all_goals (first | (intro h9; omega) | omega)
            (try simp only [Act.put, List.setIfInBounds_toArray, List.set_cons_zero, List.set_cons_succ])
            refine take_at 16 48 (.slice Ai li ci) rfl rfl (by kernel_rfl) (by kernel_rfl) (by kernel_rfl) (fun _ _ _ h => h) (Or.inl ⟨by rfl, ?_⟩) hHeld ?_
            · intro w9 hSw
              (try dsimp only at hSw)
              go_simp
              all_goals (first | (intro h9; omega) | omega)
            (try simp only [Act.put, List.setIfInBounds_toArray, List.set_cons_zero, List.set_cons_succ])
            refine wpAnyH_ready (rs := [17, 18]) (by kernel_rfl) (by simp) ?_
            refine AllReadyH.cons rfl (fun K hK => ?_) ?_
            · go_simp
              refine (C21.out V0 HC0.out).mono ?_
              rintro e V1 ⟨A, cc, rfl, hP⟩
              (try go_wp2_with fail)
              have HPL := Lib.hid (hP.base HV0.out.blw)
              have HV1 := Lib.hid (HV0.out.next hP.blw)
              have HB1 := Lib.hid (HB0.out.trans (hP.blw.mono (Nat.le_trans HV0.out.blw.size (Nat.le_refl _))))
              refine hK.out _ _ (HS21.out _ HV1.out HB1.out) (fun hHeld => ?_)
              clear hK K
              refine wpAnyH_ready (rs := [18]) (by kernel_rfl) (by simp) ?_
              refine AllReadyH.cons rfl (fun K hK => ?_) ?_
              · go_simp
                have HV2 := Lib.hid (HV1.out.alloc (.cells #[.slice none 0 0, .int .i64 0, .int .i64 0, .int .i64 0, .int .i64 0] 52))
                have HB2 := Lib.hid (HB1.out.alloc HV1.out.blw.size (.cells #[.slice none 0 0, .int .i64 0, .int .i64 0, .int .i64 0, .int .i64 0] 52))
                have HRO := Lib.hid (Row.new V1 52 #[.slice none 0 0, .int .i64 0, .int .i64 0, .int .i64 0, .int .i64 0])
                have hlt : w.heap.size < V1.heap.size := HV1.out.row.lt
                have HP2 := Lib.hid (HPL.out.alloc (.cells #[.slice none 0 0, .int .i64 0, .int .i64 0, .int .i64 0, .int .i64 0] 52))
                clear HPL
                have HPL := HP2
                clear HP2
                refine hK.out _ _ (HS21.out _ HV2.out HB2.out) (fun hHeld => ?_)
                clear hK K
                generalize V1.heap.size = xb at *
                generalize V1.alloc (.cells #[.slice none 0 0, .int .i64 0, .int .i64 0, .int .i64 0, .int .i64 0] 52) = V2 at *
                refine wpAnyH_ready (rs := [19]) (by kernel_rfl) (by simp) ?_
                refine AllReadyH.cons rfl (fun K hK => ?_) ?_
                · have hrow := HRO.out
                  have f0 := hrow.cell 0; have f1 := hrow.cell 1; have f2 := hrow.cell 2; have f3 := hrow.cell 3; have f4 := hrow.cell 4
                  simp only [List.getElem?_toArray, List.getElem?_cons_zero, List.getElem?_cons_succ] at f0 f1 f2 f3 f4
                  have g0 := hrow.frozen 0; have g1 := hrow.frozen 1; have g2 := hrow.frozen 2; have g3 := hrow.frozen 3; have g4 := hrow.frozen 4
                  have HXB := Lib.hid (XL.of HV2.out HPL.out hrow hlt (by decide))
                  have HB9 := Lib.hid (HB2.out.trans (blw5 (show w.heap.size ≤ xb by omega) ((Below.refl V2.heap.size V2).mono HV2.out.blw.size) (.slice A X.out.length cc) (.int .i64 X.err) (.int .i64 (X.at_ : Int)) (.int .i64 (X.steps : Int)) (.int .i64 (X.largest : Int))))
                  go_simp
                  refine hK.out _ _ (HS21.out _ HXB.out.k HB9.out) (fun hHeld => ?_)
                  clear hK K f0 f1 f2 f3 f4 g0 g1 g2 g3 g4 hrow
                  refine wpAnyH_done (by kernel_rfl) ?_ _
                  clear hHeld
                  go_wp2_with fail
                  go_meet
                  case rel => exact ⟨xb, A, cc, rfl, HB9.out, HXB.out⟩
                exact AllReadyH.nil
              exact AllReadyH.nil
            refine AllReadyH.cons rfl (fun K hK => ?_) ?_
            · go_simp
              have HV1 := Lib.hid (HV0.out.alloc (.cells #[.slice none 0 0, .int .i64 0, .int .i64 0, .int .i64 0, .int .i64 0] 52))
              have HB1 := Lib.hid (HB0.out.alloc HV0.out.blw.size (.cells #[.slice none 0 0, .int .i64 0, .int .i64 0, .int .i64 0, .int .i64 0] 52))
              have HRO := Lib.hid (Row.new V0 52 #[.slice none 0 0, .int .i64 0, .int .i64 0, .int .i64 0, .int .i64 0])
              have hlt : w.heap.size < V0.heap.size := HV0.out.row.lt
              have HC1 := Lib.hid (HC0.out.alloc HC0.out.size (.cells #[.slice none 0 0, .int .i64 0, .int .i64 0, .int .i64 0, .int .i64 0] 52))
              refine hK.out _ _ (HS21.out _ HV1.out HB1.out) (fun hHeld => ?_)
              clear hK K
              generalize V0.heap.size = xb at *
              generalize V0.alloc (.cells #[.slice none 0 0, .int .i64 0, .int .i64 0, .int .i64 0, .int .i64 0] 52) = V1 at *
              refine wpAnyH_ready (rs := [17]) (by kernel_rfl) (by simp) ?_
              refine AllReadyH.cons rfl (fun K hK => ?_) ?_
              · go_simp
                refine (C21.out V1 HC1.out).mono ?_
                rintro e V2 ⟨A, cc, rfl, hP⟩
                (try go_wp2_with fail)
                have HPL := Lib.hid (hP.base HV1.out.blw)
                have HV2 := Lib.hid (HV1.out.next hP.blw)
                have HB2 := Lib.hid (HB1.out.trans (hP.blw.mono (Nat.le_trans HV1.out.blw.size (Nat.le_refl _))))
                refine hK.out _ _ (HS21.out _ HV2.out HB2.out) (fun hHeld => ?_)
                clear hK K
                have HR2 := Lib.hid (HRO.out.below hP.blw HRO.out.lt)
                refine wpAnyH_ready (rs := [19]) (by kernel_rfl) (by simp) ?_
                refine AllReadyH.cons rfl (fun K hK => ?_) ?_
                · have hrow := HR2.out
                  have f0 := hrow.cell 0; have f1 := hrow.cell 1; have f2 := hrow.cell 2; have f3 := hrow.cell 3; have f4 := hrow.cell 4
                  simp only [List.getElem?_toArray, List.getElem?_cons_zero, List.getElem?_cons_succ] at f0 f1 f2 f3 f4
                  have g0 := hrow.frozen 0; have g1 := hrow.frozen 1; have g2 := hrow.frozen 2; have g3 := hrow.frozen 3; have g4 := hrow.frozen 4
                  have HXB := Lib.hid (XL.of HV2.out HPL.out hrow hlt (by decide))
                  have HB9 := Lib.hid (HB2.out.trans (blw5 (show w.heap.size ≤ xb by omega) ((Below.refl V2.heap.size V2).mono HV2.out.blw.size) (.slice A X.out.length cc) (.int .i64 X.err) (.int .i64 (X.at_ : Int)) (.int .i64 (X.steps : Int)) (.int .i64 (X.largest : Int))))
                  go_simp
                  refine hK.out _ _ (HS21.out _ HXB.out.k HB9.out) (fun hHeld => ?_)
                  clear hK K f0 f1 f2 f3 f4 g0 g1 g2 g3 g4 hrow
                  refine wpAnyH_done (by kernel_rfl) ?_ _
                  clear hHeld
                  go_wp2_with fail
                  go_meet
                  case rel => exact ⟨xb, A, cc, rfl, HB9.out, HXB.out⟩
                exact AllReadyH.nil
              exact AllReadyH.nil
            exact AllReadyH.nil
          case rest =>
            obtain ⟨xb, A, cc, rfl, HB9, HXB⟩ := hcut
            have hxs := HFT.out.small hib
            rw [← HX.out] at hxs
            obtain ⟨hx3, hx4, hx5⟩ := hxs.2.2
            have HSUC := Lib.hid (fun (t : Int) (ht : t ∈ succs (blkAt c.bs i).term) => HFT.out.succ hib (t := t) ht)
            have HOB : Hid (okBb c i = (X.err == 0 && okE c X.out (succs bt))) := by show _ = _; unfold okBb; rw [← HX.out, HSU.out]
            have f1 := (HB9.out.cell hb1).trans F11.out
            have f2 := (HB9.out.cell hb1).trans F12.out
            have f3 := (HB9.out.cell hb1).trans F13.out
            have f4 := (HB9.out.cell hb1).trans F14.out
            clear hxs C21 F10 F11 F12 F13 F14 F20 F21 F22 F23 F24 F3 HR HS21 HB9
            generalize hwcc : wc = W5 at *
            clear hwcc
            obtain ⟨xo, xe, xat, xst, xla⟩ := X
            dsimp only at hx3 hx4 hx5 HOB
            have x0 := HXB.out.row.cell 0; have x1 := HXB.out.row.cell 1
            simp only [List.getElem?_toArray, List.getElem?_cons_zero, List.getElem?_cons_succ] at x0 x1
            go_upto_region 8 with fail
            go_cut [3] from 50 to 55 (fun s3 wx => s3 = .bool (ok && xe == 0) ∧ wx = W5)
            case first =>
              cases ok
              · go_wp2_with fail
                go_meet
                case rel => exact ⟨rfl, rfl⟩
              · go_wp2_with fail
                go_meet
                case rel => exact ⟨by simp, rfl⟩
            case rest =>
              obtain ⟨rfl, rfl⟩ := hcut
              generalize hok2 : (ok && xe == 0) = ok2 at *
              have HFIN : Hid (∀ o q, o = (ok2 && okE c xo ((succs bt).take q)) → (o = false ∨ q = (succs bt).length) → o = okL c (i + 1)) := fun o q h1 h2 => by
                show o = (okL c i && okBb c i)
                rw [HOB.out, ← HOK.out]
                subst hok2
                rw [← Bool.and_assoc]
                rcases h2 with h2 | h2
                · subst h2
                  rcases hh : (ok && xe == 0) with _ | _
                  · rfl
                  · rw [hh, Bool.true_and] at h1
                    rw [okE_take h1.symm]
                    rfl
                · rw [h1, h2, List.take_length]
              clear HOB HOK hok2 HX hx4 hx5 x1
              have C9 := Lib.hid fun W => rsucc_own bt W
              have HCX := Lib.hid HXB.out.k
              have c0 := HCX.out.row.cell 0; have c1 := HCX.out.row.cell 1; have c2 := HCX.out.row.cell 2; have c3 := HCX.out.row.cell 3
              have c4 := HCX.out.row.cell 4; have c5 := HCX.out.row.cell 5; have c6 := HCX.out.row.cell 6; have c7 := HCX.out.row.cell 7
              simp only [List.getElem?_toArray, List.getElem?_cons_zero, List.getElem?_cons_succ] at c0 c1 c2 c3 c4 c5 c6 c7
              rw [HNB.out] at c2
              go_wp2_with fail
              refine (C9.out _).mono ?_
              rintro e W8 ⟨AS, cs, rfl, hcs, hcsm, hse, hb8, how⟩
              have HX8 := Lib.hid (HXB.out.next hb8)
              have HSE := Lib.hid hse
              have HSC := Lib.hid (fun (t : Int) (ht : t ∈ succs bt) => HSUC.out t (by rw [HSU.out]; exact ht))
              clear c0 c1 c2 c3 c4 c5 c6 c7
              clear x0 f1 f2 f3 f4 HXB HCX hse hb8 how C9 HSUC HSU
              obtain ⟨sb, hsb⟩ : ∃ z, z = succs bt := ⟨_, rfl⟩
              have hns2 : sb.length ≤ 2 := by rw [hsb]; exact succs_len bt
              rw [← hsb] at HSE HSC hcs HFIN ⊢
              clear hsb
              obtain ⟨ns, hns⟩ : ∃ z, z = sb.length := ⟨_, rfl⟩
              rw [← hns] at hns2 hcs HFIN ⊢
              have HNS := Lib.hid hns
              clear hns
              have HE0 : Hid (ok2 = (ok2 && okE c xo (sb.take 0))) := by show _ = _; simp [okE]
              go_wp2
              go_loopg [3, 7] ns (fun g v3 v7 wr => ∃ (q : Nat) (o' : Bool), q + g = ns ∧ v3 = .bool o' ∧ v7 = .int .i64 (q : Int) ∧ Hid (o' = (ok2 && okE c xo (sb.take q))) ∧ Hid (XL w (some ⟨b1, o1, none⟩) k1 (some ⟨b2, o2, none⟩) k2 (some ⟨b, o, none⟩) k3 c xb 52 A cc ⟨xo, xe, xat, xst, xla⟩ wr) ∧ Hid (Sees wr wr.heap.size AS (ints sb)))
              case atStart => exact ⟨0, ok2, by omega, rfl, by go_num, HE0.out, HX8.out, HSE.out⟩
              case round =>
                clear HX8 HSE HE0
                obtain ⟨q, o', hgq, rfl, rfl, HO, HX10, HSE10⟩ := hrel
                obtain ⟨W10, hW10⟩ : ∃ z, z = wr := ⟨_, rfl⟩
                subst hW10
                by_cases hq : q < ns
                · have hqz : (q : Int) < (ns : Int) := by omega
                  cases o'
                  · have HF := Lib.hid (HFIN.out false q HO.out (.inl rfl))
                    go_wp2
                    go_roundg (k - (i + 1))
                    case measure => omega
                    case rel => exact ⟨i + 1, false, by omega, rfl, by go_num, HF.out, HX10.out.k⟩
                  · have hqs : q < sb.length := by rw [← HNS.out]; exact hq
                    have hts := HSC.out _ (List.getElem_mem hqs)
                    obtain ⟨tt, htt⟩ : ∃ tt : Nat, sb[q] = (tt : Int) := ⟨sb[q].toNat, by omega⟩
                    have HES := Lib.hid (okE_step c xo hqs)
                    rw [htt] at hts HES
                    have htk : tt < k := by have := hts.2; rw [HNB.out] at this; omega
                    have htz : (tt : Int) < (k : Int) := by omega
                    obtain ⟨b5, o5, rfl, hb5, hto⟩ := HSE10.out (by intro e; have := congrArg List.length e; simp [ints] at this; rw [this] at hqs; simp at hqs)
                    have hto10 := hto q (.int .i64 (tt : Int)) (by rw [← htt]; simp [ints, hqs])
                    have hti : tt < c.inv.length := by rw [← HNW.out]; exact htk
                    obtain ⟨b3, o3, At, ct, e3, hb3', hc10, hci3, hcm3, hs3⟩ := HX10.out.k.see.inv.at_ hti
                    injection e3 with e3
                    injection e3 with e3 e4
                    subst e3 e4
                    have HCI : Hid (c.i tt = c.inv[tt]) := Ct.i_lt hti
                    have hlt4 := HL40.out _ (List.getElem_mem hti)
                    obtain ⟨L, hL⟩ : ∃ z, z = c.inv[tt] := ⟨_, rfl⟩
                    rw [← hL] at HCI hlt4 hc10 hci3 hs3
                    have HS10 := Lib.hid hs3
                    clear hL hs3 hts htt hto
                    obtain ⟨lt, hlt⟩ : ∃ z, z = L.length := ⟨_, rfl⟩
                    rw [← hlt] at hlt4 hc10 hci3
                    have HLT := Lib.hid hlt
                    clear hlt
                    have hxo : xo.length ≤ 7200 := hx3
                    generalize hxl9 : xo.length = xn at *
                    have HPS := Lib.hid (show Sees W10 W10.heap.size A (prs xo) from by have := HX10.out.pl.sees; exact this)
                    have c7 := HX10.out.k.row.cell 7
                    have x0 := HX10.out.row.cell 0
                    simp only [List.getElem?_toArray, List.getElem?_cons_zero, List.getElem?_cons_succ] at c7 x0
                    rw [← HNW.out] at c7
                    rw [hxl9] at x0
                    have g5 := hb5
                    have g7 : w.heap.size < W10.heap.size := HX10.out.k.row.lt
                    have gx : xb < W10.heap.size := HX10.out.row.lt
                    have g3 : b < W10.heap.size := by omega
                    obtain ⟨m1, m2, hmr⟩ := mres_of L xo
                    obtain ⟨mb, hmb⟩ : ∃ z, z = (misP L xo).isSome := ⟨_, rfl⟩
                    rw [← hmb] at hmr
                    have HMB := Lib.hid hmb
                    clear hmb
                    have C37 : Hid (∀ V, Below W10.heap.size W10 V → Calls Tryz.prog 19 #[.slice At lt ct, .slice A xn cc] V fun e w' => e = .returned (.tuple #[.agg #[.int .i64 m1, .int .i64 m2], .bool mb]) ∧ Below V.heap.size V w') := fun V hV => by
                      have h1 := rmissing_any W10.heap.size At A L xo ct cc V ((HS10.out.more (by omega)).below hV) (HPS.out.below hV) hV.size (by rw [← HLT.out]; omega) (by omega)
                      rw [← HLT.out, hxl9, hmr] at h1
                      exact h1
                    have HNE : Hid ((!mb) = (ok2 && okE c xo (sb.take (q + 1)))) := by
                      show _ = _
                      rw [HES.out, ← Bool.and_assoc, ← HO.out, Bool.true_and, Int.toNat_natCast, HCI.out, HMB.out]
                      rcases misP L xo with _ | p <;> rfl
                    clear hmr hxl9 HS10 HPS HES HO HCI HMB
                    go_upto_region 13 with fail
                    have HS37 : Hid (∀ V, Below W10.heap.size W10 V → V.cell? ⟨w.heap.size, 7, none⟩ = some (.slice (some ⟨b, o, none⟩) k k3) ∧ V.cell? ⟨b5, o5 + q, none⟩ = some (.int .i64 (tt : Int)) ∧ V.cell? ⟨b, o + tt, none⟩ = some (.slice At lt ct) ∧ V.cell? ⟨xb, 0, none⟩ = some (.slice A xn cc)) := fun V h => ⟨(h.cell (p := ⟨w.heap.size, 7, none⟩) g7).trans c7, (h.cell (p := ⟨b5, o5 + q, none⟩) g5).trans hto10, (h.cell (p := ⟨b, o + tt, none⟩) g3).trans hc10, (h.cell (p := ⟨xb, 0, none⟩) gx).trans x0⟩
                    go_cut [8, 9] from 73 to 86 (fun s11 s12 wx => s12 = .bool mb ∧ Hid (Below W10.heap.size W10 wx))
                    case first =>
                      go_wp2_with fail
                      refine wp_region_held_drew (S := fun w' => w'.cell? ⟨w.heap.size, 7, none⟩ = some (.slice (some ⟨b, o, none⟩) k k3) ∧ w'.cell? ⟨b5, o5 + q, none⟩ = some (.int .i64 (tt : Int)) ∧ w'.cell? ⟨b, o + tt, none⟩ = some (.slice At lt ct) ∧ w'.cell? ⟨xb, 0, none⟩ = some (.slice A xn cc)) (by kernel_rfl) (HS37.out _ (Below.refl _ _).drew) (fun hHeld => ?_)
                      have HB0 : Hid (Below W10.heap.size W10 W10.drew) := (Below.refl _ _).drew
                      generalize hVV : W10.drew = V0 at *
                      clear hVV
                      refine take_at 0 74 (.pointer (some ⟨w.heap.size, 7, none⟩)) rfl rfl (by kernel_rfl) (by kernel_rfl) (by kernel_rfl) (fun _ _ _ h => h) (Or.inl ⟨by rfl, ?_⟩) hHeld ?_
                      · intro w9 hSw
                        (try dsimp only at hSw)
                        go_simp
                        all_goals (first | (intro h9; omega) | omega)
                      (try simp only [Act.put, List.setIfInBounds_toArray, List.set_cons_zero, List.set_cons_succ])
                      refine take_at 1 75 (.slice (some ⟨b, o, none⟩) k k3) rfl rfl (by kernel_rfl) (by kernel_rfl) (by kernel_rfl) (fun _ _ _ h => h) (Or.inl ⟨by rfl, ?_⟩) hHeld ?_
                      · intro w9 hSw
                        (try dsimp only at hSw)
                        go_simp
                        all_goals (first | (intro h9; omega) | omega)
                      (try simp only [Act.put, List.setIfInBounds_toArray, List.set_cons_zero, List.set_cons_succ])
                      refine take_at 2 76 (.slice (some ⟨b5, o5, none⟩) ns cs) rfl rfl (by kernel_rfl) (by kernel_rfl) (by kernel_rfl) (fun _ _ _ h => h) (Or.inl ⟨by rfl, ?_⟩) hHeld ?_
                      · intro w9 hSw
                        (try dsimp only at hSw)
                        go_simp
                        all_goals (first | (intro h9; omega) | omega)
                      (try simp only [Act.put, List.setIfInBounds_toArray, List.set_cons_zero, List.set_cons_succ])
                      refine take_at 3 77 (.int .i64 q) rfl rfl (by kernel_rfl) (by kernel_rfl) (by kernel_rfl) (fun _ _ _ h => h) (Or.inl ⟨by rfl, ?_⟩) hHeld ?_
                      · intro w9 hSw
                        (try dsimp only at hSw)
                        go_simp
                        all_goals (first | (intro h9; omega) | omega)
                      (try simp only [Act.put, List.setIfInBounds_toArray, List.set_cons_zero, List.set_cons_succ])
                      refine take_at 4 78 (.pointer (some ⟨b5, o5 + q, none⟩)) rfl rfl (by kernel_rfl) (by kernel_rfl) (by kernel_rfl) (fun _ _ _ h => h) (Or.inl ⟨by rfl, ?_⟩) hHeld ?_
                      · intro w9 hSw
                        (try dsimp only at hSw)
                        go_simp
                        all_goals (first | (intro h9; omega) | omega)
                      (try simp only [Act.put, List.setIfInBounds_toArray, List.set_cons_zero, List.set_cons_succ])
                      refine take_at 5 79 (.int .i64 tt) rfl rfl (by kernel_rfl) (by kernel_rfl) (by kernel_rfl) (fun _ _ _ h => h) (Or.inl ⟨by rfl, ?_⟩) hHeld ?_
                      · intro w9 hSw
                        (try dsimp only at hSw)
                        go_simp
                        all_goals (first | (intro h9; omega) | omega)
                      (try simp only [Act.put, List.setIfInBounds_toArray, List.set_cons_zero, List.set_cons_succ])
                      refine take_at 6 80 (.pointer (some ⟨b, o + tt, none⟩)) rfl rfl (by kernel_rfl) (by kernel_rfl) (by kernel_rfl) (fun _ _ _ h => h) (Or.inl ⟨by rfl, ?_⟩) hHeld ?_
                      · intro w9 hSw
                        (try dsimp only at hSw)
                        go_simp
                        all_goals (first | (intro h9; omega) | omega)
                      (try simp only [Act.put, List.setIfInBounds_toArray, List.set_cons_zero, List.set_cons_succ])
                      refine take_at 7 81 (.slice At lt ct) rfl rfl (by kernel_rfl) (by kernel_rfl) (by kernel_rfl) (fun _ _ _ h => h) (Or.inl ⟨by rfl, ?_⟩) hHeld ?_
                      · intro w9 hSw
                        (try dsimp only at hSw)
                        go_simp
                        all_goals (first | (intro h9; omega) | omega)
                      (try simp only [Act.put, List.setIfInBounds_toArray, List.set_cons_zero, List.set_cons_succ])
                      refine take_at 8 82 (.pointer (some ⟨xb, 0, none⟩)) rfl rfl (by kernel_rfl) (by kernel_rfl) (by kernel_rfl) (fun _ _ _ h => h) (Or.inl ⟨by rfl, ?_⟩) hHeld ?_
                      · intro w9 hSw
                        (try dsimp only at hSw)
                        go_simp
                        all_goals (first | (intro h9; omega) | omega)
                      (try simp only [Act.put, List.setIfInBounds_toArray, List.set_cons_zero, List.set_cons_succ])
                      refine take_at 9 83 (.slice A xn cc) rfl rfl (by kernel_rfl) (by kernel_rfl) (by kernel_rfl) (fun _ _ _ h => h) (Or.inl ⟨by rfl, ?_⟩) hHeld ?_
                      · intro w9 hSw
                        (try dsimp only at hSw)
                        go_simp
                        all_goals (first | (intro h9; omega) | omega)
                      (try simp only [Act.put, List.setIfInBounds_toArray, List.set_cons_zero, List.set_cons_succ])
                      refine wpAnyH_ready (rs := [10, 14]) (by kernel_rfl) (by simp) ?_
                      refine AllReadyH.cons rfl (fun K hK => ?_) ?_
                      · go_simp
                        refine (C37.out V0 HB0.out).mono ?_
                        rintro e V1 ⟨rfl, hb⟩
                        (try go_wp2_with fail)
                        have HB1 := Lib.hid (HB0.out.trans (hb.mono HB0.out.size))
                        refine hK.out _ _ (HS37.out _ HB1.out) (fun hHeld => ?_)
                        clear hK K
                        refine take_at 11 73 (.tuple #[.agg #[.int .i64 m1, .int .i64 m2], .bool mb]) rfl rfl (by kernel_rfl) (by kernel_rfl) (by kernel_rfl) (fun _ _ _ h => h) (Or.inl ⟨by rfl, ?_⟩) hHeld ?_
                        · intro w9 hSw
                          (try dsimp only at hSw)
                          go_simp
                          all_goals (first | (intro h9; omega) | omega)
                        (try simp only [Act.put, List.setIfInBounds_toArray, List.set_cons_zero, List.set_cons_succ])
                        refine take_at 12 85 (.agg #[.int .i64 m1, .int .i64 m2]) rfl rfl (by kernel_rfl) (by kernel_rfl) (by kernel_rfl) (fun _ _ _ h => h) (Or.inl ⟨by rfl, ?_⟩) hHeld ?_
                        · intro w9 hSw
                          (try dsimp only at hSw)
                          go_simp
                          all_goals (first | (intro h9; omega) | omega)
                        (try simp only [Act.put, List.setIfInBounds_toArray, List.set_cons_zero, List.set_cons_succ])
                        refine take_at 13 86 (.bool mb) rfl rfl (by kernel_rfl) (by kernel_rfl) (by kernel_rfl) (fun _ _ _ h => h) (Or.inl ⟨by rfl, ?_⟩) hHeld ?_
                        · intro w9 hSw
                          (try dsimp only at hSw)
                          go_simp
                          all_goals (first | (intro h9; omega) | omega)
                        (try simp only [Act.put, List.setIfInBounds_toArray, List.set_cons_zero, List.set_cons_succ])
                        refine wpAnyH_ready (rs := [14]) (by kernel_rfl) (by simp) ?_
                        refine AllReadyH.cons rfl (fun K hK => ?_) ?_
                        · go_simp
                          have HB2 := Lib.hid (HB1.out.alloc HB1.out.size (.cells #[.int .i64 0, .int .i64 0] 59))
                          have HRO := Lib.hid (Row.new V1 59 #[.int .i64 0, .int .i64 0])
                          have hpb : W10.heap.size ≤ V1.heap.size := HB1.out.size
                          refine hK.out _ _ (HS37.out _ HB2.out) (fun hHeld => ?_)
                          clear hK K
                          generalize V1.heap.size = pb at *
                          generalize V1.alloc (.cells #[.int .i64 0, .int .i64 0] 59) = V2 at *
                          refine wpAnyH_ready (rs := [15]) (by kernel_rfl) (by simp) ?_
                          refine AllReadyH.cons rfl (fun K hK => ?_) ?_
                          · have hrow := HRO.out
                            have f0 := hrow.cell 0; have f1 := hrow.cell 1
                            simp only [List.getElem?_toArray, List.getElem?_cons_zero, List.getElem?_cons_succ] at f0 f1
                            have g0 := hrow.frozen 0; have g1 := hrow.frozen 1
                            have HB9 := Lib.hid ((HB2.out.setCell (p := ⟨pb, 0, none⟩) hpb (.int .i64 m1)).setCell (p := ⟨pb, 1, none⟩) hpb (.int .i64 m2))
                            go_simp
                            refine hK.out _ _ (HS37.out _ HB9.out) (fun hHeld => ?_)
                            clear hK K f0 f1 g0 g1 hrow
                            refine take_at 16 9 (.bool mb) rfl rfl (by kernel_rfl) (by kernel_rfl) (by kernel_rfl) (fun _ _ _ h => h) (Or.inl ⟨by rfl, ?_⟩) hHeld ?_
                            · intro w9 hSw
                              (try dsimp only at hSw)
                              go_simp
                              all_goals (first | (intro h9; omega) | omega)
                            (try simp only [Act.put, List.setIfInBounds_toArray, List.set_cons_zero, List.set_cons_succ])
                            refine wpAnyH_done (by kernel_rfl) ?_ _
                            clear hHeld
                            go_wp2_with fail
                            go_meet
                            case rel => exact ⟨rfl, HB9.out⟩
                          exact AllReadyH.nil
                        exact AllReadyH.nil
                      refine AllReadyH.cons rfl (fun K hK => ?_) ?_
                      · go_simp
                        have HB1 := Lib.hid (HB0.out.alloc HB0.out.size (.cells #[.int .i64 0, .int .i64 0] 59))
                        have HRO := Lib.hid (Row.new V0 59 #[.int .i64 0, .int .i64 0])
                        have hpb : W10.heap.size ≤ V0.heap.size := HB0.out.size
                        refine hK.out _ _ (HS37.out _ HB1.out) (fun hHeld => ?_)
                        clear hK K
                        generalize V0.heap.size = pb at *
                        generalize V0.alloc (.cells #[.int .i64 0, .int .i64 0] 59) = V1 at *
                        refine wpAnyH_ready (rs := [10]) (by kernel_rfl) (by simp) ?_
                        refine AllReadyH.cons rfl (fun K hK => ?_) ?_
                        · go_simp
                          refine (C37.out V1 HB1.out).mono ?_
                          rintro e V2 ⟨rfl, hb⟩
                          (try go_wp2_with fail)
                          have HB2 := Lib.hid (HB1.out.trans (hb.mono HB1.out.size))
                          refine hK.out _ _ (HS37.out _ HB2.out) (fun hHeld => ?_)
                          clear hK K
                          have HR2 := Lib.hid (HRO.out.below hb HRO.out.lt)
                          refine take_at 11 73 (.tuple #[.agg #[.int .i64 m1, .int .i64 m2], .bool mb]) rfl rfl (by kernel_rfl) (by kernel_rfl) (by kernel_rfl) (fun _ _ _ h => h) (Or.inl ⟨by rfl, ?_⟩) hHeld ?_
                          · intro w9 hSw
                            (try dsimp only at hSw)
                            go_simp
                            all_goals (first | (intro h9; omega) | omega)
                          (try simp only [Act.put, List.setIfInBounds_toArray, List.set_cons_zero, List.set_cons_succ])
                          refine take_at 12 85 (.agg #[.int .i64 m1, .int .i64 m2]) rfl rfl (by kernel_rfl) (by kernel_rfl) (by kernel_rfl) (fun _ _ _ h => h) (Or.inl ⟨by rfl, ?_⟩) hHeld ?_
                          · intro w9 hSw
                            (try dsimp only at hSw)
                            go_simp
                            all_goals (first | (intro h9; omega) | omega)
                          (try simp only [Act.put, List.setIfInBounds_toArray, List.set_cons_zero, List.set_cons_succ])
                          refine take_at 13 86 (.bool mb) rfl rfl (by kernel_rfl) (by kernel_rfl) (by kernel_rfl) (fun _ _ _ h => h) (Or.inl ⟨by rfl, ?_⟩) hHeld ?_
                          · intro w9 hSw
                            (try dsimp only at hSw)
                            go_simp
                            all_goals (first | (intro h9; omega) | omega)
                          (try simp only [Act.put, List.setIfInBounds_toArray, List.set_cons_zero, List.set_cons_succ])
                          refine wpAnyH_ready (rs := [15]) (by kernel_rfl) (by simp) ?_
                          refine AllReadyH.cons rfl (fun K hK => ?_) ?_
                          · have hrow := HR2.out
                            have f0 := hrow.cell 0; have f1 := hrow.cell 1
                            simp only [List.getElem?_toArray, List.getElem?_cons_zero, List.getElem?_cons_succ] at f0 f1
                            have g0 := hrow.frozen 0; have g1 := hrow.frozen 1
                            have HB9 := Lib.hid ((HB2.out.setCell (p := ⟨pb, 0, none⟩) hpb (.int .i64 m1)).setCell (p := ⟨pb, 1, none⟩) hpb (.int .i64 m2))
                            go_simp
                            refine hK.out _ _ (HS37.out _ HB9.out) (fun hHeld => ?_)
                            clear hK K f0 f1 g0 g1 hrow
                            refine take_at 16 9 (.bool mb) rfl rfl (by kernel_rfl) (by kernel_rfl) (by kernel_rfl) (fun _ _ _ h => h) (Or.inl ⟨by rfl, ?_⟩) hHeld ?_
                            · intro w9 hSw
                              (try dsimp only at hSw)
                              go_simp
                              all_goals (first | (intro h9; omega) | omega)
                            (try simp only [Act.put, List.setIfInBounds_toArray, List.set_cons_zero, List.set_cons_succ])
                            refine wpAnyH_done (by kernel_rfl) ?_ _
                            clear hHeld
                            go_wp2_with fail
                            go_meet
                            case rel => exact ⟨rfl, HB9.out⟩
                          exact AllReadyH.nil
                        exact AllReadyH.nil
                      exact AllReadyH.nil
                    case rest =>
                      obtain ⟨rfl, HBC⟩ := hcut
                      clear HS37 C37 c7 x0 hto10 hc10
                      have HX11 := Lib.hid (HX10.out.next HBC.out)
                      have HSE11 := Lib.hid ((HSE10.out.below HBC.out).more HBC.out.size)
                      clear HX10 HSE10 HBC
                      generalize hwcc : wc = W12 at *
                      clear hwcc
                      go_wp2
                      go_roundg (ns - (q + 1))
                      case measure => omega
                      case rel => exact ⟨q + 1, !mb, by omega, rfl, by go_num, HNE.out, HX11.out, HSE11.out⟩
                · have hqz : ¬ (q : Int) < (ns : Int) := by omega
                  have HF := Lib.hid (HFIN.out o' q HO.out (.inr (by omega)))
                  go_wp2
                  go_roundg (k - (i + 1))
                  case measure => omega
                  case rel => exact ⟨i + 1, o', by omega, rfl, by go_num, HF.out, HX10.out.k⟩
        · have hiz : ¬ (i : Int) < (k : Int) := by omega
          have hik : i = c.bs.length := by rw [HNB.out]; omega
          have hok := HOK.out
          rw [hik] at hok
          have HOK2 := Lib.hid hok
          clear hok HOK hik
          have c0 := HR.out.row.cell 0; have c1 := HR.out.row.cell 1; have c2 := HR.out.row.cell 2; have c3 := HR.out.row.cell 3
          have c4 := HR.out.row.cell 4; have c5 := HR.out.row.cell 5; have c6 := HR.out.row.cell 6; have c7 := HR.out.row.cell 7
          simp only [List.getElem?_toArray, List.getElem?_cons_zero, List.getElem?_cons_succ] at c0 c1 c2 c3 c4 c5 c6 c7
          rw [HNB.out] at c2
          have hm3 := HNB.out
          go_wp2_with fail
          rw [← HNB.out]
          refine (pckcheck_any wr (HR.out.see.more HR.out.blw.size) HSM.out HWF.out).mono ?_
          rintro e W5 ⟨rfl, hb⟩
          clear c0 c1 c2 c3 c4 c5 c6 c7
          have HL := HLOC.out
          rw [← HOK2.out] at HL
          have HLC := Lib.hid HL
          generalize checkC c = r at *
          have hba := (Below.refl W5.heap.size W5).alloc (Nat.le_refl _) (.cells #[.int .i64 r.err, .int .i64 (r.blk : Int), .int .i64 (r.at_ : Int), .int .i64 (r.blocks : Int), .int .i64 (r.edges : Int), .int .i64 (r.steps : Int), .int .i64 (r.largest : Int)] 37)
          have HRO := Lib.hid (Row.new W5 37 #[.int .i64 r.err, .int .i64 (r.blk : Int), .int .i64 (r.at_ : Int), .int .i64 (r.blocks : Int), .int .i64 (r.edges : Int), .int .i64 (r.steps : Int), .int .i64 (r.largest : Int)])
          have HK6 := Lib.hid ((HR.out.next hb).next hba)
          clear hb hba HR HL HOK2 HLOC
          go_upto_region 16 with fail
          generalize (W5.alloc (.cells #[.int .i64 r.err, .int .i64 (r.blk : Int), .int .i64 (r.at_ : Int), .int .i64 (r.blocks : Int), .int .i64 (r.edges : Int), .int .i64 (r.steps : Int), .int .i64 (r.largest : Int)] 37)) = W6 at *
          generalize W5.heap.size = rb at *
          have r0 := HRO.out.cell 0; have r3 := HRO.out.cell 3
          simp only [List.getElem?_toArray, List.getElem?_cons_zero, List.getElem?_cons_succ] at r0 r3
          rcases HLC.out with ⟨h1, h2⟩ | ⟨h1, h2⟩
          · have e1 : (r.err == 23) = true := by simp [h1]
            have e2 : ((r.blocks : Int) == 0) = true := by simp [h2]
            clear h1 h2 HLC
            go_wp2
            go_ret
            exact ⟨rfl, HK6.out.blw⟩
          · have e1 : (r.err == 23) = false := by simp [h1]
            have e2 : (ok == (r.err == 0)) = true := by rw [h2]; simp [BEq.beq]
            clear h1 h2 HLC
            go_wp2
            go_ret
            exact ⟨rfl, HK6.out.blw⟩
    · have hv1 : (validC c != 0) = true := by simp [hv]
      clear hv
      go_wp2_with fail
      refine (AW.out _).mono ?_
      rintro e W9 ⟨rfl, hb⟩
      have HZ := Lib.hid (HK3.out.next hb)
      clear hb HK3
      go_wp2
      go_ret
      exact ⟨rfl, HZ.out.blw⟩
end Go.Proofs.YtapdheabblgbaaaGreat
