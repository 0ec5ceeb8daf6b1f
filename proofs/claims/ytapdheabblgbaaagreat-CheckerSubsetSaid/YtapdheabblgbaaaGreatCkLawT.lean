/-
  The walk of the statement on subsets (two regions of it are written by wip/lab/gencksub.py).
-/
import Derived.Test.YtapdheabblgbaaaGreatCkAwk
import Derived.Test.YtapdheabblgbaaaGreatCkSub
import Derived.Test.YtapdheabblgbaaaGreatCkSb
import Derived.Test.YtapdheabblgbaaaGreatCkOwn
import Derived.Test.YtapdheabblgbaaaGreatCkXl
import Derived.Test.YtapdheabblgbaaaGreatBcRef
import Derived.Test.YtapdheabblgbaaaGreatSucOwn
import Derived.Test.YtapdheabblgbaaaGreatPk3
import Derived.Test.YtapdheabblgbaaaGreatIL
import Derived.Test.YtapdheabblgbaaaGreatPk1
import Derived.Deep.Cut
import Derived.Deep.CutRange
import Derived.BigRegion
namespace Go.Proofs.YtapdheabblgbaaaGreat
open Go.RowKit
set_option linter.unusedVariables false
set_option linter.unusedSimpArgs false

theorem rp_err9 (a b c d e f g : Value) (w : World) : (Instr.field 37 (.agg #[a, b, c, d, e, f, g]) 0).run Tryz.prog w = .ok a w := by kernel_rfl

set_option maxRecDepth 100000 in
set_option maxHeartbeats 16000000 in
theorem CheckerSubset_walk (a0 : Array Value) (a1 : Int) (a2 : Option Addr) (len2 cap2 : Nat) (w : World) (w0 : IsCert w a0) (w1 : (Lit.int .u8 a1).wf = true) (w2 : IsBools w a2 len2 cap2) :
    Calls Tryz.prog 7 #[.agg a0, .int .u8 a1, .slice a2 len2 cap2] w fun e w' => e = .returned (.bool true) ∧ Below w.heap.size w w' := by
  obtain ⟨i0, hi0, hz0, hz1, hz2⟩ := info_pr
  have hu1 := u8_of_wf w1
  obtain ⟨d1, rfl⟩ := Int.eq_ofNat_of_zero_le hu1.1
  have HD := Lib.hid w2
  have hnd : len2 ≤ 9223372036854775807 := by have h1 := w2.1; have h2 := w2.2.1; unfold maxLen at h2; omega
  have hd255 : d1 ≤ 255 := by omega
  clear w1 w2 hu1
  have mixed : Tryz.prog.follows .mixedOrders = true := by kernel_rfl
  obtain ⟨c, A1, k1, A2, k2, A3, k3, rfl, hce, hwf⟩ := w0
  have AW : Hid (∀ W, Calls Tryz.prog 9 #[] W fun e w' => e = .returned (.bool true) ∧ Below W.heap.size W w') := fun W => ckawake_any W
  have HK := Lib.hid (CeK.start hce)
  have HWF := Lib.hid hwf
  have hm1 : c.bs.length ≤ 9223372036854775807 := by have := hce.l1; unfold maxLen at this; omega
  clear hce hwf
  go_enter Tryz.func7, Tryz.ntmps7
  go_upto_region 1 with fail
  have hz0 : w.heap.size < (w.alloc (.cells #[.int .i64 c.sa, .int .i64 c.sr, .slice A1 c.bs.length k1, .int .i64 c.ta, .int .i64 c.tr, .int .i64 c.ts, .slice A2 c.ms.length k2, .slice A3 c.inv.length k3] 30)).heap.size := by simp
  generalize (w.alloc (.cells #[.int .i64 c.sa, .int .i64 c.sr, .slice A1 c.bs.length k1, .int .i64 c.ta, .int .i64 c.tr, .int .i64 c.ts, .slice A2 c.ms.length k2, .slice A3 c.inv.length k3] 30)) = W0 at *
  go_wp2_with fail
  refine (AW.out _).mono ?_
  rintro e W1 ⟨rfl, hb⟩
  have HK1 := Lib.hid (HK.out.next hb)
  clear hb HK hz0
  have c0 := HK1.out.row.cell 0; have c1 := HK1.out.row.cell 1; have c2 := HK1.out.row.cell 2; have c3 := HK1.out.row.cell 3
  have c4 := HK1.out.row.cell 4; have c5 := HK1.out.row.cell 5; have c6 := HK1.out.row.cell 6; have c7 := HK1.out.row.cell 7
  simp only [List.getElem?_toArray, List.getElem?_cons_zero, List.getElem?_cons_succ] at c0 c1 c2 c3 c4 c5 c6 c7
  go_wp2_with fail
  refine (rckfew_any W1 (HK1.out.see.more HK1.out.blw.size)).mono ?_
  rintro e W2 ⟨⟨b, rfl, hF⟩, hb⟩
  have HK2 := Lib.hid (HK1.out.next hb)
  clear hb HK1
  clear c0 c1 c2 c3 c4 c5 c6 c7
  cases b
  · go_wp2_with fail
    refine (AW.out _).mono ?_
    rintro e W9 ⟨rfl, hb⟩
    have HZ := Lib.hid (HK2.out.next hb)
    clear hb HK2
    go_wp2
    go_ret
    exact ⟨rfl, HZ.out.blw⟩
  · have HSM := Lib.hid (hF rfl)
    clear hF
    have c0 := HK2.out.row.cell 0; have c1 := HK2.out.row.cell 1; have c2 := HK2.out.row.cell 2; have c3 := HK2.out.row.cell 3
    have c4 := HK2.out.row.cell 4; have c5 := HK2.out.row.cell 5; have c6 := HK2.out.row.cell 6; have c7 := HK2.out.row.cell 7
    simp only [List.getElem?_toArray, List.getElem?_cons_zero, List.getElem?_cons_succ] at c0 c1 c2 c3 c4 c5 c6 c7
    go_wp2_with fail
    refine (pckcheck_any W2 (HK2.out.see.more HK2.out.blw.size) HSM.out HWF.out).mono ?_
    rintro e W3 ⟨rfl, hb⟩
    clear c0 c1 c2 c3 c4 c5 c6 c7
    have HK3 := Lib.hid (HK2.out.next hb)
    clear hb HK2
    by_cases hacc : (checkC c).err = 0
    · have e1 : ((checkC c).err != 0) = false := by simp [hacc]
      have HACC := Lib.hid hacc
      obtain ⟨N, n, m, hfit⟩ := fitC_of (Decidable.byContradiction fun hv => by have h1 := HACC.out; unfold checkC at h1; rw [if_pos hv] at h1; exact hv h1) HSM.out HWF.out
      have HFT := Lib.hid hfit
      have hfld := fun W => rp_err9 (.int .i64 (checkC c).err) (.int .i64 ((checkC c).blk : Int)) (.int .i64 ((checkC c).at_ : Int)) (.int .i64 ((checkC c).blocks : Int)) (.int .i64 ((checkC c).edges : Int)) (.int .i64 ((checkC c).steps : Int)) (.int .i64 ((checkC c).largest : Int)) W
      clear hacc
      obtain ⟨nb, hnb⟩ : ∃ z, z = c.bs.length := ⟨_, rfl⟩
      have HNB : Hid (c.bs.length = nb) := hnb.symm
      have HNM : Hid (c.ms.length = nb) := by show _ = _; rw [← hfit.len, hnb]
      have HNW : Hid (nb = c.inv.length) := by show _ = _; rw [hfit.ilen, hnb]
      have hk40 : nb ≤ 40 := by rw [hnb]; exact hfit.b40
      have hk0 : 0 < nb := by rw [hnb]; exact hfit.pos
      have HL40 : Hid (∀ l ∈ c.inv, l.length ≤ 400) := fun l hl => (HFT.out.inv l hl).2.1
      clear hfit hnb
      obtain ⟨r0, hr0⟩ : ∃ z, z = checkC c := ⟨_, rfl⟩
      rw [← hr0] at e1 hfld ⊢
      clear hr0
      have c0 := HK3.out.row.cell 0; have c1 := HK3.out.row.cell 1; have c2 := HK3.out.row.cell 2; have c3 := HK3.out.row.cell 3
      have c4 := HK3.out.row.cell 4; have c5 := HK3.out.row.cell 5; have c6 := HK3.out.row.cell 6; have c7 := HK3.out.row.cell 7
      simp only [List.getElem?_toArray, List.getElem?_cons_zero, List.getElem?_cons_succ] at c0 c1 c2 c3 c4 c5 c6 c7
      go_wp2_with fail
      refine (rckcopy_any W3 (HK3.out.see.more HK3.out.blw.size) HSM.out).mono ?_
      rintro e W4 ⟨Av1, cv1, vs1, Av2, cv2, vs2, Av3, cv3, vs3, rfl, hn1, hn2, hn3, hb⟩
      clear c0 c1 c2 c3 c4 c5 c6 c7
      have HK4 := Lib.hid (HK3.out.next hb)
      have HZ3 := Lib.hid HK3.out.row.lt
      have HN1 := Lib.hid hn1
      have HN2 := Lib.hid hn2
      have HN3 := Lib.hid hn3
      have HOK := Lib.hid (mblks_fit HK3.out.see.ms)
      have HZ34 := Lib.hid hb.size
      clear hn1 hn2 hn3 hb HK3 hfld e1
      have c0 := HK4.out.row.cell 0; have c1 := HK4.out.row.cell 1; have c2 := HK4.out.row.cell 2; have c3 := HK4.out.row.cell 3
      have c4 := HK4.out.row.cell 4; have c5 := HK4.out.row.cell 5; have c6 := HK4.out.row.cell 6; have c7 := HK4.out.row.cell 7
      simp only [List.getElem?_toArray, List.getElem?_cons_zero, List.getElem?_cons_succ] at c0 c1 c2 c3 c4 c5 c6 c7
      go_upto_region 4 with fail
      clear c0 c1 c2 c3 c4 c5 c6 c7
      have hbn := ((Below.refl W4.heap.size W4).alloc (Nat.le_refl _) (.cells #[.int .i64 c.sa, .int .i64 c.sr, .slice Av1 c.bs.length cv1, .int .i64 c.ta, .int .i64 c.tr, .int .i64 c.ts, .slice Av2 c.ms.length cv2, .slice Av3 c.inv.length cv3] 30))
      have HK5 := Lib.hid (HK4.out.alloc (.cells #[.int .i64 c.sa, .int .i64 c.sr, .slice Av1 c.bs.length cv1, .int .i64 c.ta, .int .i64 c.tr, .int .i64 c.ts, .slice Av2 c.ms.length cv2, .slice Av3 c.inv.length cv3] 30))
      have HM1 := Lib.hid (HN1.out.below hbn)
      have HM2 := Lib.hid (HN2.out.below hbn)
      have HM3 := Lib.hid (HN3.out.below hbn)
      have HROW := Lib.hid (Row.new W4 30 #[.int .i64 c.sa, .int .i64 c.sr, .slice Av1 c.bs.length cv1, .int .i64 c.ta, .int .i64 c.tr, .int .i64 c.ts, .slice Av2 c.ms.length cv2, .slice Av3 c.inv.length cv3])
      have HOB : Hid (W3.heap.size ≤ W4.heap.size ∧ w.heap.size < W4.heap.size) := ⟨HZ34.out, HK4.out.row.lt⟩
      have HO5 : Hid (W4.heap.size < (W4.alloc (.cells #[.int .i64 c.sa, .int .i64 c.sr, .slice Av1 c.bs.length cv1, .int .i64 c.ta, .int .i64 c.tr, .int .i64 c.ts, .slice Av2 c.ms.length cv2, .slice Av3 c.inv.length cv3] 30)).heap.size) := by show _ < _; simp
      clear HK4 HN1 HN2 HN3 hbn
      generalize (W4.alloc (.cells #[.int .i64 c.sa, .int .i64 c.sr, .slice Av1 c.bs.length cv1, .int .i64 c.ta, .int .i64 c.tr, .int .i64 c.ts, .slice Av2 c.ms.length cv2, .slice Av3 c.inv.length cv3] 30)) = W5 at *
      generalize W4.heap.size = ob at *
      have c0 := HK5.out.row.cell 0; have c1 := HK5.out.row.cell 1; have c2 := HK5.out.row.cell 2; have c3 := HK5.out.row.cell 3
      have c4 := HK5.out.row.cell 4; have c5 := HK5.out.row.cell 5; have c6 := HK5.out.row.cell 6; have c7 := HK5.out.row.cell 7
      simp only [List.getElem?_toArray, List.getElem?_cons_zero, List.getElem?_cons_succ] at c0 c1 c2 c3 c4 c5 c6 c7
      rw [← HNW.out] at c7
      go_upto_region 6 with fail
      obtain ⟨k, hk, hkn⟩ : ∃ x : Nat, (d1 : Int) % (nb : Int) = (x : Int) ∧ x < nb := ⟨d1 % nb, (Int.natCast_emod _ _).symm, Nat.mod_lt _ hk0⟩
      rw [hk]
      clear hk
      have hkz : (k : Int) < (nb : Int) := by omega
      have hki : k < c.inv.length := by rw [← HNW.out]; exact hkn
      obtain ⟨b, o, Ai, ci, rfl, hb, hc, hci, hcm, hsi⟩ := HK5.out.see.inv.at_ hki
      have HCI : Hid (c.i k = c.inv[k]) := Ct.i_lt hki
      have hl4 := HL40.out _ (List.getElem_mem hki)
      obtain ⟨L, hL⟩ : ∃ z, z = c.inv[k] := ⟨_, rfl⟩
      rw [← hL] at HCI hl4 hc hci hsi
      clear hL
      obtain ⟨li, hli⟩ : ∃ z, z = L.length := ⟨_, rfl⟩
      rw [← hli] at hl4 hc hci
      have HLI := Lib.hid hli
      have HSI := Lib.hid hsi
      have HC := Lib.hid hc
      have HC7 := Lib.hid c7
      have HBZ := Lib.hid HK5.out.blw.size
      clear hli hsi hc
      clear c0 c1 c2 c3 c4 c5 c6 c7
      have hbz5 : b < W5.heap.size := Nat.lt_of_lt_of_le hb HBZ.out
      have hwz5 : w.heap.size < W5.heap.size := HK5.out.row.lt
      go_wp2
      go_loopg [9, 10] li (fun g v9 v10 wr => ∃ (j : Nat) (l : List Pr), j + g = li ∧ v10 = .int .i64 j ∧ Hid (l.Sublist (L.take j)) ∧ Hid (PL W5 v9 l wr))
      case atStart => exact ⟨0, [], by omega, by go_num, List.nil_sublist _, PL.nil W5⟩
      case round =>
        obtain ⟨j, l, hgj, rfl, HO, HP⟩ := hrel
        have c7 := (HP.out.blw.cell (p := ⟨w.heap.size, 7, none⟩) hwz5).trans HC7.out
        have hc := (HP.out.blw.cell (p := ⟨b, o + k, none⟩) hbz5).trans HC.out
        by_cases hlt : j < li
        · have hjz : (j : Int) < (li : Int) := by omega
          have hal : j < L.length := by rw [← HLI.out]; exact hlt
          have hol : l.length ≤ 1000 := by have := HO.out.length_le; simp at this; omega
          have HO0 : Hid (l.Sublist (L.take (j + 1))) := by
            show List.Sublist _ _
            rw [List.take_succ_eq_append_getElem hal]
            exact HO.out.trans (List.sublist_append_left _ _)
          have HO1 : Hid ((l ++ [L[j]]).Sublist (L.take (j + 1))) := by
            show List.Sublist _ _
            rw [List.take_succ_eq_append_getElem hal]
            exact HO.out.append (List.Sublist.refl _)
          obtain ⟨b1, o1, rfl, hb1, hc0, hc1⟩ := sees_pair HSI.out hal
          have f0 := (HP.out.blw.cell (p := ⟨b1, _, none⟩) (by show b1 < _; omega)).trans hc0
          have f1 := (HP.out.blw.cell (p := ⟨b1, _, none⟩) (by show b1 < _; omega)).trans hc1
          generalize L[j] = x at *
          obtain ⟨x1, x2⟩ := x
          dsimp only at f0 f1
          clear hc0 hc1 HO
          by_cases hdl : j < len2
          · have hdz : (j : Int) < (len2 : Int) := by omega
            have hdd : decide ((len2 : Int) ≤ (j : Int)) = false := by simp; omega
            obtain ⟨z, b2, o2, rfl, hb2, hc2⟩ := HD.out.2.2 j hdl
            have f2 := ((HK5.out.blw.trans (HP.out.blw.mono HBZ.out)).cell (p := ⟨b2, _, none⟩) hb2).trans hc2
            clear hc2
            cases z
            · go_upto_region 10 with fail
              have hown := (HP.out.alloc (prObj x1 x2)).own
              have hnew := new_sees wr x1 x2
              go_wp2_with (at_builtin; refine wpList_append_any _ rfl (.tmp 61) (.tmp 70) 50 rfl _ 59 i0 (.agg #[.int .i64 0, .int .i64 0]) 2 16 Tryz.underlying50 hi0 hz0 hz1 hz2 rfl (by decide) _ _ _ rfl hown (wr.heap.size + 1) _ 1 1 _ rfl hnew rfl (prs_one _) ?c1 ?c2 ?c3 ?_)
              case c1 => have := hol; unfold maxLen; omega
              case c2 => have := hol; omega
              case c3 => have := HP.out.blw.size; simp; omega
              intro v3 W6 ho2 hg2 hb2
              have HP3 := Lib.hid (HP.out.push x1 x2 (by first | rfl | simp) ho2 hg2)
              clear ho2 hg2 hb2 hown hnew
              go_wp2
              go_roundg (li - (j + 1))
              case measure => omega
              case rel => exact ⟨j + 1, _, by omega, by go_num, HO1.out, HP3.out⟩
            · go_wp2
              go_roundg (li - (j + 1))
              case measure => omega
              case rel => exact ⟨j + 1, _, by omega, by go_num, HO0.out, HP.out⟩
          · have hdz : ¬ (j : Int) < (len2 : Int) := by omega
            have hdw : (len2 : Int) ≤ (j : Int) := by omega
            have hdd : decide ((len2 : Int) ≤ (j : Int)) = true := by simp; omega
            go_upto_region 10 with fail
            have hown := (HP.out.alloc (prObj x1 x2)).own
            have hnew := new_sees wr x1 x2
            go_wp2_with (at_builtin; refine wpList_append_any _ rfl (.tmp 61) (.tmp 70) 50 rfl _ 59 i0 (.agg #[.int .i64 0, .int .i64 0]) 2 16 Tryz.underlying50 hi0 hz0 hz1 hz2 rfl (by decide) _ _ _ rfl hown (wr.heap.size + 1) _ 1 1 _ rfl hnew rfl (prs_one _) ?c1 ?c2 ?c3 ?_)
            case c1 => have := hol; unfold maxLen; omega
            case c2 => have := hol; omega
            case c3 => have := HP.out.blw.size; simp; omega
            intro v3 W6 ho2 hg2 hb2
            have HP3 := Lib.hid (HP.out.push x1 x2 (by first | rfl | simp) ho2 hg2)
            clear ho2 hg2 hb2 hown hnew
            go_wp2
            go_roundg (li - (j + 1))
            case measure => omega
            case rel => exact ⟨j + 1, _, by omega, by go_num, HO1.out, HP3.out⟩
        · have hjz : ¬ (j : Int) < (li : Int) := by omega
          have HSUB : Hid (l.Sublist (c.i k)) := by
            have := HO.out
            rw [List.take_of_length_le (by rw [← HLI.out]; omega)] at this
            show List.Sublist _ _
            rw [HCI.out]
            exact this
          have hll : l.length ≤ 400 := by have := HSUB.out.length_le; rw [HCI.out, ← HLI.out] at this; omega
          clear HO HLI HSI HC HC7 HD hlt
          obtain ⟨Al, cl, rfl, hl1, hl2⟩ := HP.out.slice
          obtain ⟨g, cur, rfl, hgb, hrg, hcg⟩ := pp_block HM3.out (Nat.lt_of_le_of_lt (Nat.zero_le _) hki)
          have hgob : ob ≠ g := Row.ne HROW.out hrg (by decide)
          have hrgw := hrg.below HP.out.blw hrg.lt
          have hrow := HROW.out.below HP.out.blw HROW.out.lt
          have hgk := hrgw.cell k
          have hgf := hrgw.frozen k
          rw [Array.getElem?_eq_getElem (by omega)] at hgk
          generalize cur[k]'(by omega) = gv at hgk
          obtain ⟨ll, hll0⟩ : ∃ z, z = l.length := ⟨_, rfl⟩
          have f7 := hrow.cell 7
          simp only [List.getElem?_toArray, List.getElem?_cons_zero, List.getElem?_cons_succ] at f7
          rw [← HNW.out] at f7
          have hm7 := (Mods.refl (Is g) wr).put k (.slice Al l.length cl)
          have hown0 := HP.out.own
          have hown := ownS_base hown0 (base' := W3.heap.size) (by have := HOB.out.1; have := HO5.out; omega)
          have HN1 := (HM1.out.below HP.out.blw).aside hrgw (by decide) (by decide) hm7
          have HN2 := (HM2.out.below HP.out.blw).aside hrgw (by decide) (by decide) hm7
          have HN3 := (HM3.out.below HP.out.blw).repl (k := k) (u := .slice Al l.length cl) (l := l) rfl hki hown (fun q hq i u' hu' e => by
            have h1 := ownS_lt hown0 q hq
            have hin : i < vs3.length := (List.getElem?_eq_some_iff.1 hu').1
            have h2 := HM3.out.inner i u' (c.inv[i]'(by rw [← HM3.out.len]; exact hin)) hu' (List.getElem?_eq_getElem _)
            have h3 := ownS_lt h2 q e
            omega)
          have HLS : Hid (Sees (wr.setCell ⟨g, k, none⟩ (.slice Al l.length cl)) (wr.setCell ⟨g, k, none⟩ (.slice Al l.length cl)).heap.size Al (prs l)) := sees_own (hm7.ownS hown0 (own_row_neS hown0 hrgw (by decide)))
          rw [← sub_len (c := c) (k := k) (l := l)] at HN3
          have HSB : Hid (∃ B0, SB w ob B0 A1 k1 A2 k2 (some ⟨b, o, none⟩) k3 Av1 cv1 Av2 cv2 (some ⟨g, 0, none⟩) cv3 Al c k l (wr.setCell ⟨g, k, none⟩ (.slice Al l.length cl))) :=
            ⟨_, (HK5.out.next HP.out.blw).mods hm7 (by have := HZ3.out; omega), hrow.mods hm7 (fun e => hgob e), Nat.le_refl _, ceAt_own HN1 HN2 HN3 HOK.out, HLS.out⟩
          have HL1 := Lib.hid hl1
          have HL2 := Lib.hid hl2
          clear HN1 HN2 HN3 HLS hown hown0 hm7 HM1 HM2 HM3 HK5 HP HROW hrg hrow hcg hl1 hl2 HOK HOB HO5 HZ3 HZ34 hgb hci hcm hi0 hz0 hz1 hz2 hl4 hb hbz5
          rw [← hll0] at hll HSB HL1 ⊢
          have HLL0 := Lib.hid hll0
          clear hll0
          go_upto_region 12 with fail
          obtain ⟨B0, hsb⟩ := HSB.out
          clear HSB hrgw hgk hgf f7 c7 hc
          generalize (wr.setCell ⟨g, k, none⟩ (.slice Al ll cl)) = W7 at *
          have HSB := Lib.hid hsb
          clear hsb
          have hib : k < c.bs.length := by rw [HNB.out]; exact hkn
          have him : k < c.ms.length := by rw [HNM.out]; exact hkn
          obtain ⟨N2, n2, m2', hfit2⟩ := fitC_of (sub_valid (checkC_ok HACC.out).1 hki HSUB.out) (SmC.sub HSM.out hki HSUB.out) (Ct.Wf.sub HWF.out hki HSUB.out)
          have HFS := Lib.hid hfit2
          have HAS := Lib.hid (checkC_subset HACC.out hib hki HSUB.out)
          obtain ⟨b1, o1, rfl, hb1, hB1⟩ := HSB.out.ck.see.bs.at_ hib
          obtain ⟨b2, o2, rfl, hb2, hB2⟩ := HSB.out.ck.see.ms.at_ him
          obtain ⟨Ac, cc1, hq10, hq1l, hq1m, hq1i⟩ := hB1.code
          obtain ⟨Am, cm1, hq20, hq2l, hq2m, hq2i⟩ := hB2.code
          have hxs := hfit2.small hib
          obtain ⟨X, hX⟩ : ∃ z, z = ckB (c.sub k l) k := ⟨_, rfl⟩
          have hXE : X = checkE c.bs[k].code c.ms[k].code c.bs[k].term c.ms[k].term (tmP c.bs[k].term c.ms[k].term) l 1048576 := by
            rw [hX]
            unfold ckB
            rw [sub_eq hki]
            show checkE (blkAt c.bs k).code (mblkAt c.ms k).code (blkAt c.bs k).term (mblkAt c.ms k).term (tmP (blkAt c.bs k).term (mblkAt c.ms k).term) l 1048576 = _
            rw [blkAt_lt hib, mblkAt_lt him]
          have hops : ∀ rows, Chn c.bs[k].code c.ms[k].code 0 0 rows → ∀ e ∈ blkOps c.bs[k].code c.ms[k].code rows c.bs[k].term c.ms[k].term, e.In rg60 lc120 := by
            have := HFT.out.ops hib
            rw [blkAt_lt hib, mblkAt_lt him] at this
            exact this
          have hmem : l ∈ (c.sub k l).inv := by
            have := Ct.i_mem (c := c.sub k l) (k := k) (by rw [sub_len]; exact hki)
            rw [sub_eq hki] at this
            exact this
          obtain ⟨hv1, hv2, hv3, hv4⟩ := hfit2.inv _ hmem
          have hl1 : c.bs[k].code.length ≤ 300 := Nat.le_trans (codeN_mem c.bs k hib) HFT.out.code
          have hll9 : l.length ≤ 400 := by rw [← HLL0.out]; exact hll
          have hl2 : c.ms[k].code.length ≤ 900 := Nat.le_trans (mcodeN_mem c.ms k him) HFT.out.mcode
          have hlcl : l.length ≤ cl := by rw [← HLL0.out]; exact HL1.out
          have hcl9 := HL2.out
          have C12 : Hid (∀ V, Below W7.heap.size W7 V → Calls Tryz.prog 18 #[.agg #[.slice Ac c.bs[k].code.length cc1, .int .i64 c.bs[k].term.kind, .int .i64 c.bs[k].term.a, .int .i64 c.bs[k].term.to, .int .i64 c.bs[k].term.el], .agg #[.slice Am c.ms[k].code.length cm1, .int .i64 c.ms[k].term.kind, .int .i64 c.ms[k].term.a, .int .i64 c.ms[k].term.to, .int .i64 c.ms[k].term.el], .slice Al ll cl, .int .i64 1048576] V fun x w' => ∃ A' c', x = .returned (.agg #[.slice A' X.out.length c', .int .i64 X.err, .int .i64 (X.at_ : Int), .int .i64 (X.steps : Int), .int .i64 (X.largest : Int)]) ∧ PL V (.slice A' X.out.length c') X.out w') := fun V hV => by
            rw [hXE, HLL0.out]
            have hz := Nat.le_trans HSB.out.ck.blw.size hV.size
            have hV' := hV.mono HSB.out.ck.blw.size
            exact rblk_any ⟨rfl, hq1l, hq1m, (hq1i.below hV').more hz⟩ ⟨rfl, hq2l, hq2m, (hq2i.below hV').more hz⟩ (((HSB.out.ls.more HSB.out.lo).below hV).more hV.size) hv1 hv4 room120 (by omega) (by omega) (by omega) hops (HFT.out.ft.ins _ (List.getElem_mem him)) (by have := HFT.out.hn; omega) ((HFT.out.ft.tm _ (List.getElem_mem him)).mono (by have := HFT.out.b40; have := HFT.out.len; omega))
          have F10 := Lib.hid hq10; have F11 := Lib.hid hB1.t0; have F12 := Lib.hid hB1.t1; have F13 := Lib.hid hB1.t2; have F14 := Lib.hid hB1.t3
          have F20 := Lib.hid hq20; have F21 := Lib.hid hB2.t0; have F22 := Lib.hid hB2.t1; have F23 := Lib.hid hB2.t2; have F24 := Lib.hid hB2.t3
          have HSU : Hid (succs (blkAt c.bs k).term = succs c.bs[k].term) := by show _ = _; rw [blkAt_lt hib]
          have HBZ7 := Lib.hid HSB.out.ck.blw
          have hbz7 := HBZ7.out.size
          have gw : w.heap.size < W7.heap.size := HSB.out.ck.row.lt
          have g1 : b1 < W7.heap.size := by omega
          have g2 : b2 < W7.heap.size := by omega
          clear hll9 hlcl hcl9 hq10 hq1l hq1m hq1i hq20 hq2l hq2m hq2i hB1 hB2 hXE hops hv1 hv2 hv3 hv4 hmem hfit2
          have HX := Lib.hid hX
          clear hX
          generalize c.bs[k].term = bt at *
          generalize c.ms[k].term = mt at *
          generalize c.bs[k].code.length = lc at *
          generalize c.ms[k].code.length = lm at *
          have HCK := Lib.hid HSB.out.ck
          have c0 := HCK.out.row.cell 0; have c1 := HCK.out.row.cell 1; have c2 := HCK.out.row.cell 2; have c3 := HCK.out.row.cell 3
          have c4 := HCK.out.row.cell 4; have c5 := HCK.out.row.cell 5; have c6 := HCK.out.row.cell 6; have c7 := HCK.out.row.cell 7
          simp only [List.getElem?_toArray, List.getElem?_cons_zero, List.getElem?_cons_succ] at c0 c1 c2 c3 c4 c5 c6 c7
          rw [← HNW.out] at c7
          rw [HNB.out] at c2
          rw [HNM.out] at c6
          have HS1 : Hid (∀ V, Below W7.heap.size W7 V → (V.cell? ⟨w.heap.size, 2, none⟩ = some (.slice (some ⟨b1, o1, none⟩) nb k1) ∧ V.cell? ⟨w.heap.size, 6, none⟩ = some (.slice (some ⟨b2, o2, none⟩) nb k2)) ∧ (V.cell? ⟨b1, o1 + k * 5, none⟩ = some (.slice Ac lc cc1) ∧ V.cell? ⟨b1, o1 + k * 5 + 1, none⟩ = some (.int .i64 bt.kind) ∧ V.cell? ⟨b1, o1 + k * 5 + 2, none⟩ = some (.int .i64 bt.a) ∧ V.cell? ⟨b1, o1 + k * 5 + 3, none⟩ = some (.int .i64 bt.to) ∧ V.cell? ⟨b1, o1 + k * 5 + 4, none⟩ = some (.int .i64 bt.el)) ∧ (V.cell? ⟨b2, o2 + k * 5, none⟩ = some (.slice Am lm cm1) ∧ V.cell? ⟨b2, o2 + k * 5 + 1, none⟩ = some (.int .i64 mt.kind) ∧ V.cell? ⟨b2, o2 + k * 5 + 2, none⟩ = some (.int .i64 mt.a) ∧ V.cell? ⟨b2, o2 + k * 5 + 3, none⟩ = some (.int .i64 mt.to) ∧ V.cell? ⟨b2, o2 + k * 5 + 4, none⟩ = some (.int .i64 mt.el))) := fun V h => ⟨⟨(h.cell (p := ⟨w.heap.size, 2, none⟩) gw).trans c2, (h.cell (p := ⟨w.heap.size, 6, none⟩) gw).trans c6⟩, ⟨(h.cell (p := ⟨b1, o1 + k * 5, none⟩) g1).trans F10.out, (h.cell (p := ⟨b1, o1 + k * 5 + 1, none⟩) g1).trans F11.out, (h.cell (p := ⟨b1, o1 + k * 5 + 2, none⟩) g1).trans F12.out, (h.cell (p := ⟨b1, o1 + k * 5 + 3, none⟩) g1).trans F13.out, (h.cell (p := ⟨b1, o1 + k * 5 + 4, none⟩) g1).trans F14.out⟩, ⟨(h.cell (p := ⟨b2, o2 + k * 5, none⟩) g2).trans F20.out, (h.cell (p := ⟨b2, o2 + k * 5 + 1, none⟩) g2).trans F21.out, (h.cell (p := ⟨b2, o2 + k * 5 + 2, none⟩) g2).trans F22.out, (h.cell (p := ⟨b2, o2 + k * 5 + 3, none⟩) g2).trans F23.out, (h.cell (p := ⟨b2, o2 + k * 5 + 4, none⟩) g2).trans F24.out⟩⟩
          go_cut [11] from 77 to 90 (fun s11 wx => ∃ xb A cc, s11 = .pointer (some ⟨xb, 0, none⟩) ∧ Hid (Below W7.heap.size W7 wx) ∧ Hid (XS w ob B0 (some ⟨b1, o1, none⟩) k1 (some ⟨b2, o2, none⟩) k2 (some ⟨b, o, none⟩) k3 Av1 cv1 Av2 cv2 (some ⟨g, 0, none⟩) cv3 Al c k l xb A cc X wx))
          case first =>
            go_wp2_with fail
            refine wp_region_held_drew (S := fun w' => (w'.cell? ⟨w.heap.size, 2, none⟩ = some (.slice (some ⟨b1, o1, none⟩) nb k1) ∧ w'.cell? ⟨w.heap.size, 6, none⟩ = some (.slice (some ⟨b2, o2, none⟩) nb k2)) ∧ (w'.cell? ⟨b1, o1 + k * 5, none⟩ = some (.slice Ac lc cc1) ∧ w'.cell? ⟨b1, o1 + k * 5 + 1, none⟩ = some (.int .i64 bt.kind) ∧ w'.cell? ⟨b1, o1 + k * 5 + 2, none⟩ = some (.int .i64 bt.a) ∧ w'.cell? ⟨b1, o1 + k * 5 + 3, none⟩ = some (.int .i64 bt.to) ∧ w'.cell? ⟨b1, o1 + k * 5 + 4, none⟩ = some (.int .i64 bt.el)) ∧ (w'.cell? ⟨b2, o2 + k * 5, none⟩ = some (.slice Am lm cm1) ∧ w'.cell? ⟨b2, o2 + k * 5 + 1, none⟩ = some (.int .i64 mt.kind) ∧ w'.cell? ⟨b2, o2 + k * 5 + 2, none⟩ = some (.int .i64 mt.a) ∧ w'.cell? ⟨b2, o2 + k * 5 + 3, none⟩ = some (.int .i64 mt.to) ∧ w'.cell? ⟨b2, o2 + k * 5 + 4, none⟩ = some (.int .i64 mt.el))) (by kernel_rfl) (HS1.out _ (Below.refl _ _).drew) (fun hHeld => ?_)
            have HB0 : Hid (Below W7.heap.size W7 W7.drew) := (Below.refl _ _).drew
            generalize hVV : W7.drew = V0 at *
            clear hVV
            refine take_at 0 77 (.pointer (some ⟨w.heap.size, 0, none⟩)) rfl rfl (by kernel_rfl) (by kernel_rfl) (by kernel_rfl) (fun _ _ _ h => h) (Or.inl ⟨by rfl, ?_⟩) hHeld ?_
            · intro w9 hSw
              (try dsimp only at hSw)
              go_simp
              all_goals (first | (intro h9; omega) | omega)
            (try simp only [Act.put, List.setIfInBounds_toArray, List.set_cons_zero, List.set_cons_succ])
            refine take_at 1 78 (.pointer (some ⟨w.heap.size, 2, none⟩)) rfl rfl (by kernel_rfl) (by kernel_rfl) (by kernel_rfl) (fun _ _ _ h => h) (Or.inl ⟨by rfl, ?_⟩) hHeld ?_
            · intro w9 hSw
              (try dsimp only at hSw)
              go_simp
              all_goals (first | (intro h9; omega) | omega)
            (try simp only [Act.put, List.setIfInBounds_toArray, List.set_cons_zero, List.set_cons_succ])
            refine take_at 2 79 (.slice (some ⟨b1, o1, none⟩) nb k1) rfl rfl (by kernel_rfl) (by kernel_rfl) (by kernel_rfl) (fun _ _ _ h => h) (Or.inl ⟨by rfl, ?_⟩) hHeld ?_
            · intro w9 hSw
              (try dsimp only at hSw)
              go_simp
              all_goals (first | (intro h9; omega) | omega)
            (try simp only [Act.put, List.setIfInBounds_toArray, List.set_cons_zero, List.set_cons_succ])
            refine take_at 3 80 (.int .i64 k) rfl rfl (by kernel_rfl) (by kernel_rfl) (by kernel_rfl) (fun _ _ _ h => h) (Or.inl ⟨by rfl, ?_⟩) hHeld ?_
            · intro w9 hSw
              (try dsimp only at hSw)
              go_simp
              all_goals (first | (intro h9; omega) | omega)
            (try simp only [Act.put, List.setIfInBounds_toArray, List.set_cons_zero, List.set_cons_succ])
            refine take_at 4 81 (.pointer (some ⟨b1, o1 + k * 5, none⟩)) rfl rfl (by kernel_rfl) (by kernel_rfl) (by kernel_rfl) (fun _ _ _ h => h) (Or.inl ⟨by rfl, ?_⟩) hHeld ?_
            · intro w9 hSw
              (try dsimp only at hSw)
              go_simp
              all_goals (first | (intro h9; omega) | omega)
            (try simp only [Act.put, List.setIfInBounds_toArray, List.set_cons_zero, List.set_cons_succ])
            refine take_at 5 82 (.agg #[.slice Ac lc cc1, .int .i64 bt.kind, .int .i64 bt.a, .int .i64 bt.to, .int .i64 bt.el]) rfl rfl (by kernel_rfl) (by kernel_rfl) (by kernel_rfl) (fun _ _ _ h => h) (Or.inl ⟨by rfl, ?_⟩) hHeld ?_
            · intro w9 hSw
              (try dsimp only at hSw)
              go_simp
              all_goals (first | (intro h9; omega) | omega)
            (try simp only [Act.put, List.setIfInBounds_toArray, List.set_cons_zero, List.set_cons_succ])
            refine take_at 6 83 (.pointer (some ⟨w.heap.size, 3, none⟩)) rfl rfl (by kernel_rfl) (by kernel_rfl) (by kernel_rfl) (fun _ _ _ h => h) (Or.inl ⟨by rfl, ?_⟩) hHeld ?_
            · intro w9 hSw
              (try dsimp only at hSw)
              go_simp
              all_goals (first | (intro h9; omega) | omega)
            (try simp only [Act.put, List.setIfInBounds_toArray, List.set_cons_zero, List.set_cons_succ])
            refine take_at 7 84 (.pointer (some ⟨w.heap.size, 6, none⟩)) rfl rfl (by kernel_rfl) (by kernel_rfl) (by kernel_rfl) (fun _ _ _ h => h) (Or.inl ⟨by rfl, ?_⟩) hHeld ?_
            · intro w9 hSw
              (try dsimp only at hSw)
              go_simp
              all_goals (first | (intro h9; omega) | omega)
            (try simp only [Act.put, List.setIfInBounds_toArray, List.set_cons_zero, List.set_cons_succ])
            refine take_at 8 85 (.slice (some ⟨b2, o2, none⟩) nb k2) rfl rfl (by kernel_rfl) (by kernel_rfl) (by kernel_rfl) (fun _ _ _ h => h) (Or.inl ⟨by rfl, ?_⟩) hHeld ?_
            · intro w9 hSw
              (try dsimp only at hSw)
              go_simp
              all_goals (first | (intro h9; omega) | omega)
            (try simp only [Act.put, List.setIfInBounds_toArray, List.set_cons_zero, List.set_cons_succ])
            refine take_at 9 86 (.int .i64 k) rfl rfl (by kernel_rfl) (by kernel_rfl) (by kernel_rfl) (fun _ _ _ h => h) (Or.inl ⟨by rfl, ?_⟩) hHeld ?_
            · intro w9 hSw
              (try dsimp only at hSw)
              go_simp
              all_goals (first | (intro h9; omega) | omega)
            (try simp only [Act.put, List.setIfInBounds_toArray, List.set_cons_zero, List.set_cons_succ])
            refine take_at 10 87 (.pointer (some ⟨b2, o2 + k * 5, none⟩)) rfl rfl (by kernel_rfl) (by kernel_rfl) (by kernel_rfl) (fun _ _ _ h => h) (Or.inl ⟨by rfl, ?_⟩) hHeld ?_
            · intro w9 hSw
              (try dsimp only at hSw)
              go_simp
              all_goals (first | (intro h9; omega) | omega)
            (try simp only [Act.put, List.setIfInBounds_toArray, List.set_cons_zero, List.set_cons_succ])
            refine take_at 11 88 (.agg #[.slice Am lm cm1, .int .i64 mt.kind, .int .i64 mt.a, .int .i64 mt.to, .int .i64 mt.el]) rfl rfl (by kernel_rfl) (by kernel_rfl) (by kernel_rfl) (fun _ _ _ h => h) (Or.inl ⟨by rfl, ?_⟩) hHeld ?_
            · intro w9 hSw
              (try dsimp only at hSw)
              go_simp
              all_goals (first | (intro h9; omega) | omega)
            (try simp only [Act.put, List.setIfInBounds_toArray, List.set_cons_zero, List.set_cons_succ])
            refine take_at 12 89 (.slice Al ll cl) rfl rfl (by kernel_rfl) (by kernel_rfl) (by kernel_rfl) (fun _ _ _ h => h) (Or.inl ⟨by rfl, ?_⟩) hHeld ?_
            · intro w9 hSw
              (try dsimp only at hSw)
              go_simp
              all_goals (first | (intro h9; omega) | omega)
            (try simp only [Act.put, List.setIfInBounds_toArray, List.set_cons_zero, List.set_cons_succ])
            refine wpAnyH_ready (rs := [13, 14]) (by kernel_rfl) (by simp) ?_
            refine AllReadyH.cons rfl (fun K hK => ?_) ?_
            · go_simp
              refine (C12.out V0 HB0.out).mono ?_
              rintro e V1 ⟨A, cc, rfl, hP⟩
              (try go_wp2_with fail)
              have HPL := Lib.hid (hP.base (HBZ7.out.trans (HB0.out.mono hbz7)))
              have HB1 := Lib.hid (HB0.out.trans (hP.blw.mono HB0.out.size))
              refine hK.out _ _ (HS1.out _ HB1.out) (fun hHeld => ?_)
              clear hK K
              refine wpAnyH_ready (rs := [14]) (by kernel_rfl) (by simp) ?_
              refine AllReadyH.cons rfl (fun K hK => ?_) ?_
              · go_simp
                have HB2 := Lib.hid (HB1.out.alloc HB1.out.size (.cells #[.slice none 0 0, .int .i64 0, .int .i64 0, .int .i64 0, .int .i64 0] 52))
                have HRO := Lib.hid (Row.new V1 52 #[.slice none 0 0, .int .i64 0, .int .i64 0, .int .i64 0, .int .i64 0])
                have hlt : W7.heap.size ≤ V1.heap.size := HB1.out.size
                have HP2 := Lib.hid (HPL.out.alloc (.cells #[.slice none 0 0, .int .i64 0, .int .i64 0, .int .i64 0, .int .i64 0] 52))
                clear HPL
                have HPL := HP2
                clear HP2
                refine hK.out _ _ (HS1.out _ HB2.out) (fun hHeld => ?_)
                clear hK K
                generalize V1.heap.size = xb at *
                generalize V1.alloc (.cells #[.slice none 0 0, .int .i64 0, .int .i64 0, .int .i64 0, .int .i64 0] 52) = V2 at *
                refine wpAnyH_ready (rs := [15]) (by kernel_rfl) (by simp) ?_
                refine AllReadyH.cons rfl (fun K hK => ?_) ?_
                · have hrow := HRO.out
                  have f0 := hrow.cell 0; have f1 := hrow.cell 1; have f2 := hrow.cell 2; have f3 := hrow.cell 3; have f4 := hrow.cell 4
                  simp only [List.getElem?_toArray, List.getElem?_cons_zero, List.getElem?_cons_succ] at f0 f1 f2 f3 f4
                  have q0 := hrow.frozen 0; have q1 := hrow.frozen 1; have q2 := hrow.frozen 2; have q3 := hrow.frozen 3; have q4 := hrow.frozen 4
                  have HB9 := Lib.hid (blw5 hlt HB2.out (.slice A X.out.length cc) (.int .i64 X.err) (.int .i64 (X.at_ : Int)) (.int .i64 (X.steps : Int)) (.int .i64 (X.largest : Int)))
                  have HXB := Lib.hid (XS.of HSB.out HB2.out HPL.out hrow hlt (by decide))
                  go_simp
                  refine hK.out _ _ (HS1.out _ HB9.out) (fun hHeld => ?_)
                  clear hK K f0 f1 f2 f3 f4 q0 q1 q2 q3 q4 hrow
                  refine wpAnyH_done (by kernel_rfl) ?_ _
                  clear hHeld
                  go_wp2_with fail
                  go_meet
                  case rel => exact ⟨xb, A, cc, rfl, HB9.out, HXB.out⟩
                exact AllReadyH.nil
              exact AllReadyH.nil
            refine AllReadyH.cons rfl (fun K hK => ?_) ?_
            · go_simp
              have HB1 := Lib.hid (HB0.out.alloc HB0.out.size (.cells #[.slice none 0 0, .int .i64 0, .int .i64 0, .int .i64 0, .int .i64 0] 52))
              have HRO := Lib.hid (Row.new V0 52 #[.slice none 0 0, .int .i64 0, .int .i64 0, .int .i64 0, .int .i64 0])
              have hlt : W7.heap.size ≤ V0.heap.size := HB0.out.size
              refine hK.out _ _ (HS1.out _ HB1.out) (fun hHeld => ?_)
              clear hK K
              generalize V0.heap.size = xb at *
              generalize V0.alloc (.cells #[.slice none 0 0, .int .i64 0, .int .i64 0, .int .i64 0, .int .i64 0] 52) = V1 at *
              refine wpAnyH_ready (rs := [13]) (by kernel_rfl) (by simp) ?_
              refine AllReadyH.cons rfl (fun K hK => ?_) ?_
              · go_simp
                refine (C12.out V1 HB1.out).mono ?_
                rintro e V2 ⟨A, cc, rfl, hP⟩
                (try go_wp2_with fail)
                have HPL := Lib.hid (hP.base (HBZ7.out.trans (HB1.out.mono hbz7)))
                have HB2 := Lib.hid (HB1.out.trans (hP.blw.mono HB1.out.size))
                refine hK.out _ _ (HS1.out _ HB2.out) (fun hHeld => ?_)
                clear hK K
                have HR2 := Lib.hid (HRO.out.below hP.blw HRO.out.lt)
                refine wpAnyH_ready (rs := [15]) (by kernel_rfl) (by simp) ?_
                refine AllReadyH.cons rfl (fun K hK => ?_) ?_
                · have hrow := HR2.out
                  have f0 := hrow.cell 0; have f1 := hrow.cell 1; have f2 := hrow.cell 2; have f3 := hrow.cell 3; have f4 := hrow.cell 4
                  simp only [List.getElem?_toArray, List.getElem?_cons_zero, List.getElem?_cons_succ] at f0 f1 f2 f3 f4
                  have q0 := hrow.frozen 0; have q1 := hrow.frozen 1; have q2 := hrow.frozen 2; have q3 := hrow.frozen 3; have q4 := hrow.frozen 4
                  have HB9 := Lib.hid (blw5 hlt HB2.out (.slice A X.out.length cc) (.int .i64 X.err) (.int .i64 (X.at_ : Int)) (.int .i64 (X.steps : Int)) (.int .i64 (X.largest : Int)))
                  have HXB := Lib.hid (XS.of HSB.out HB2.out HPL.out hrow hlt (by decide))
                  go_simp
                  refine hK.out _ _ (HS1.out _ HB9.out) (fun hHeld => ?_)
                  clear hK K f0 f1 f2 f3 f4 q0 q1 q2 q3 q4 hrow
                  refine wpAnyH_done (by kernel_rfl) ?_ _
                  clear hHeld
                  go_wp2_with fail
                  go_meet
                  case rel => exact ⟨xb, A, cc, rfl, HB9.out, HXB.out⟩
                exact AllReadyH.nil
              exact AllReadyH.nil
            exact AllReadyH.nil
          case rest =>
            obtain ⟨xb, A, cc, rfl, HB9, HXB⟩ := hcut
            rw [← HX.out] at hxs
            obtain ⟨hx3, hx4, hx5⟩ := hxs.2.2
            have HX1 := Lib.hid hxs.1
            have HSUC := Lib.hid (fun (t : Int) (ht : t ∈ succs (blkAt c.bs k).term) => HFT.out.succ hib (t := t) ht)
            have HOB : Hid (okBb (c.sub k l) k = (X.err == 0 && okE (c.sub k l) X.out (succs bt))) := by
              show _ = _
              unfold okBb
              rw [← HX.out]
              show (X.err == 0 && okE (c.sub k l) X.out (succs (blkAt c.bs k).term)) = _
              rw [HSU.out]
            have f1 := (HB9.out.cell (p := ⟨b1, o1 + k * 5 + 1, none⟩) g1).trans F11.out
            have f2 := (HB9.out.cell (p := ⟨b1, o1 + k * 5 + 2, none⟩) g1).trans F12.out
            have f3 := (HB9.out.cell (p := ⟨b1, o1 + k * 5 + 3, none⟩) g1).trans F13.out
            have f4 := (HB9.out.cell (p := ⟨b1, o1 + k * 5 + 4, none⟩) g1).trans F14.out
            clear c0 c1 c2 c3 c4 c5 c6 c7
            clear hxs C12 F10 F11 F12 F13 F14 F20 F21 F22 F23 F24 HSB HS1 HB9 HBZ7 HCK
            generalize hwcc : wc = W8 at *
            clear hwcc
            obtain ⟨xo, xe, xat, xst, xla⟩ := X
            dsimp only at hx3 hx4 hx5 HOB HX1
            obtain ⟨e0, he0⟩ : ∃ z : Bool, z = (xe == 0) := ⟨_, rfl⟩
            rw [← he0] at HOB
            have HFIN : Hid (∀ o q, o = (e0 && okE (c.sub k l) xo ((succs bt).take q)) → (o = false ∨ q = (succs bt).length) → o = okBb (c.sub k l) k) := fun o q h1 h2 => by
              rw [HOB.out]
              rcases h2 with h2 | h2
              · subst h2
                rcases hh : e0 with _ | _
                · rfl
                · rw [hh, Bool.true_and] at h1
                  rw [okE_take h1.symm]
                  rfl
              · rw [h1, h2, List.take_length]
            have HE0X := Lib.hid he0
            clear HOB HX hx4 hx5 he0
            have HCX := Lib.hid HXB.out.sb.ck
            have c0 := HCX.out.row.cell 0; have c1 := HCX.out.row.cell 1; have c2 := HCX.out.row.cell 2; have c3 := HCX.out.row.cell 3
            have c4 := HCX.out.row.cell 4; have c5 := HCX.out.row.cell 5; have c6 := HCX.out.row.cell 6; have c7 := HCX.out.row.cell 7
            simp only [List.getElem?_toArray, List.getElem?_cons_zero, List.getElem?_cons_succ] at c0 c1 c2 c3 c4 c5 c6 c7
            rw [HNB.out] at c2
            have C9 := Lib.hid fun W => rsucc_own bt W
            go_wp2_with fail
            refine (C9.out _).mono ?_
            rintro e W9 ⟨AS, cs, rfl, hcs, hcsm, hse, hb8, how⟩
            have HX8 := Lib.hid (HXB.out.next hb8)
            have HSE := Lib.hid hse
            have HSC := Lib.hid (fun (t : Int) (ht : t ∈ succs bt) => HSUC.out t (by rw [HSU.out]; exact ht))
            clear c0 c1 c2 c3 c4 c5 c6 c7
            clear f1 f2 f3 f4 HXB HCX hse hb8 how C9 HSUC HSU
            obtain ⟨sb, hsb⟩ : ∃ z, z = succs bt := ⟨_, rfl⟩
            have hns2 : sb.length ≤ 2 := by rw [hsb]; exact succs_len bt
            rw [← hsb] at HSE HSC hcs HFIN ⊢
            clear hsb
            obtain ⟨ns, hns⟩ : ∃ z, z = sb.length := ⟨_, rfl⟩
            rw [← hns] at hns2 hcs HFIN ⊢
            have HNS := Lib.hid hns
            clear hns
            have x1 := HX8.out.row.cell 1
            simp only [List.getElem?_toArray, List.getElem?_cons_zero, List.getElem?_cons_succ] at x1
            have HE0 : Hid (e0 = (e0 && okE (c.sub k l) xo (sb.take 0))) := by show _ = _; simp [okE]
            go_upto_region 15 with fail
            rw [← HE0X.out]
            clear x1
            have C20A : Hid (∀ V, SB w ob B0 (some ⟨b1, o1, none⟩) k1 (some ⟨b2, o2, none⟩) k2 (some ⟨b, o, none⟩) k3 Av1 cv1 Av2 cv2 (some ⟨g, 0, none⟩) cv3 Al c k l V → Calls Tryz.prog 13 #[.agg #[.int .i64 c.sa, .int .i64 c.sr, .slice Av1 c.bs.length cv1, .int .i64 c.ta, .int .i64 c.tr, .int .i64 c.ts, .slice Av2 c.ms.length cv2, .slice (some ⟨g, 0, none⟩) c.inv.length cv3]] V (RpP V (checkC (c.sub k l)))) := fun V hV => by
              have h := pckcheck_any V (hV.see.more hV.lo) (SmC.sub HSM.out hki HSUB.out) (Ct.Wf.sub HWF.out hki HSUB.out)
              rw [sub_len] at h
              exact h
            go_wp2
            go_loopg [13, 14] ns (fun g' v13 v14 wr => ∃ (q : Nat) (o' : Bool), q + g' = ns ∧ v13 = .bool o' ∧ v14 = .int .i64 (q : Int) ∧ Hid (o' = (e0 && okE (c.sub k l) xo (sb.take q))) ∧ Hid (XS w ob B0 (some ⟨b1, o1, none⟩) k1 (some ⟨b2, o2, none⟩) k2 (some ⟨b, o, none⟩) k3 Av1 cv1 Av2 cv2 (some ⟨g, 0, none⟩) cv3 Al c k l xb A cc ⟨xo, xe, xat, xst, xla⟩ wr) ∧ Hid (Sees wr wr.heap.size AS (ints sb)))
            case atStart => exact ⟨0, e0, by omega, rfl, by go_num, HE0.out, HX8.out, HSE.out⟩
            case round =>
              clear HX8 HSE HE0
              obtain ⟨q, o', hgq, rfl, rfl, HO, HX10, HSE10⟩ := hrel
              obtain ⟨W10, hW10⟩ : ∃ z, z = wr := ⟨_, rfl⟩
              subst hW10
              by_cases hq : q < ns
              · have hqz : (q : Int) < (ns : Int) := by omega
                cases o'
                · have HF := Lib.hid (HFIN.out false q HO.out (.inl rfl))
                  have HSX := Lib.hid HX10.out.sb
                  have f0 := HSX.out.row.cell 0; have f1 := HSX.out.row.cell 1; have f2 := HSX.out.row.cell 2; have f3 := HSX.out.row.cell 3
                  have f4 := HSX.out.row.cell 4; have f5 := HSX.out.row.cell 5; have f6 := HSX.out.row.cell 6; have f7 := HSX.out.row.cell 7
                  simp only [List.getElem?_toArray, List.getElem?_cons_zero, List.getElem?_cons_succ] at f0 f1 f2 f3 f4 f5 f6 f7
                  have C20 := Lib.hid (C20A.out W10 HSX.out)
                  clear HX10 HSE10
                  go_wp2_with fail
                  refine C20.out.mono ?_
                  rintro e W20 ⟨rfl, hb⟩
                  have HS20 := Lib.hid (HSX.out.next hb)
                  clear f0 f1 f2 f3 f4 f5 f6 f7 HSX C20 hb
                  have HAO : Hid ((false = true → (checkC (c.sub k l)).err = 0) ∧ (false = false → (checkC (c.sub k l)).err ≠ 0 ∧ (checkC (c.sub k l)).blk = k)) := by
                    refine ⟨fun h => HAS.out.1 ((okBb_iff _ _).1 (by rw [← HF.out]; exact h)), fun h => HAS.out.2 fun hh => ?_⟩
                    have := (okBb_iff _ _).2 hh
                    rw [← HF.out, h] at this
                    cases this
                  generalize checkC (c.sub k l) = r at *
                  have hba := (Below.refl W20.heap.size W20).alloc (Nat.le_refl _) (.cells #[.int .i64 r.err, .int .i64 (r.blk : Int), .int .i64 (r.at_ : Int), .int .i64 (r.blocks : Int), .int .i64 (r.edges : Int), .int .i64 (r.steps : Int), .int .i64 (r.largest : Int)] 37)
                  have HRO := Lib.hid (Row.new W20 37 #[.int .i64 r.err, .int .i64 (r.blk : Int), .int .i64 (r.at_ : Int), .int .i64 (r.blocks : Int), .int .i64 (r.edges : Int), .int .i64 (r.steps : Int), .int .i64 (r.largest : Int)])
                  have HS21 := Lib.hid (HS20.out.next hba)
                  clear hba HS20
                  go_upto_region 21 with fail
                  generalize (W20.alloc (.cells #[.int .i64 r.err, .int .i64 (r.blk : Int), .int .i64 (r.at_ : Int), .int .i64 (r.blocks : Int), .int .i64 (r.edges : Int), .int .i64 (r.steps : Int), .int .i64 (r.largest : Int)] 37)) = W21 at *
                  generalize W20.heap.size = rb at *
                  have r0 := HRO.out.cell 0; have r1 := HRO.out.cell 1
                  simp only [List.getElem?_toArray, List.getElem?_cons_zero, List.getElem?_cons_succ] at r0 r1
                  obtain ⟨h1, h2⟩ := HAO.out.2 (by trivial)
                  have e1 : (r.err != 0) = true := by simp [h1]
                  have e2 : ((r.blk : Int) == (k : Int)) = true := by simp [h2]
                  clear HAO h1 h2
                  go_wp2
                  go_ret
                  exact ⟨rfl, HS21.out.ck.blw⟩
                · have hqs : q < sb.length := by rw [← HNS.out]; exact hq
                  have hts := HSC.out _ (List.getElem_mem hqs)
                  obtain ⟨tt, htt⟩ : ∃ tt : Nat, sb[q] = (tt : Int) := ⟨sb[q].toNat, by omega⟩
                  have HES := Lib.hid (okE_step (c.sub k l) xo hqs)
                  rw [htt] at hts HES
                  have htk : tt < nb := by have := hts.2; rw [HNB.out] at this; omega
                  have htz : (tt : Int) < (nb : Int) := by omega
                  obtain ⟨b5, o5, rfl, hb5, hto⟩ := HSE10.out (by intro e; have := congrArg List.length e; simp [ints] at this; rw [this] at hqs; simp at hqs)
                  have hto10 := hto q (.int .i64 (tt : Int)) (by rw [← htt]; simp [ints, hqs])
                  have hti : tt < (c.sub k l).inv.length := by rw [sub_len, ← HNW.out]; exact htk
                  obtain ⟨b3, o3, At, ct, e3, hb3', hc10, hci3, hcm3, hs3⟩ := HX10.out.sb.see.inv.at_ hti
                  injection e3 with e3
                  injection e3 with e3 e4
                  subst e3 e4
                  rw [Nat.zero_add] at hc10
                  have HCI : Hid ((c.sub k l).i tt = (c.sub k l).inv[tt]) := Ct.i_lt hti
                  have hlt4 := (HFS.out.inv _ (List.getElem_mem hti)).2.1
                  obtain ⟨L, hL⟩ : ∃ z, z = (c.sub k l).inv[tt] := ⟨_, rfl⟩
                  rw [← hL] at HCI hlt4 hc10 hci3 hs3
                  have HS10 := Lib.hid hs3
                  clear hL hs3 hts htt hto
                  obtain ⟨lt, hlt⟩ : ∃ z, z = L.length := ⟨_, rfl⟩
                  rw [← hlt] at hlt4 hc10 hci3
                  have HLT := Lib.hid hlt
                  clear hlt
                  have hxo : xo.length ≤ 7200 := hx3
                  generalize hxl9 : xo.length = xn at *
                  have HPS := Lib.hid (show Sees W10 W10.heap.size A (prs xo) from by have := HX10.out.pl.sees; exact this)
                  have f7 := HX10.out.sb.row.cell 7
                  have x0 := HX10.out.row.cell 0
                  simp only [List.getElem?_toArray, List.getElem?_cons_zero, List.getElem?_cons_succ] at f7 x0
                  rw [← HNW.out] at f7
                  rw [hxl9] at x0
                  have g5 := hb5
                  have g7 : ob < W10.heap.size := HX10.out.sb.row.lt
                  have gx : xb < W10.heap.size := HX10.out.row.lt
                  have g3 : g < W10.heap.size := by have := HX10.out.sb.lo; omega
                  have hlo10 := HX10.out.sb.lo
                  obtain ⟨m1, m2, hmr⟩ := mres_of L xo
                  obtain ⟨mb, hmb⟩ : ∃ z, z = (misP L xo).isSome := ⟨_, rfl⟩
                  rw [← hmb] at hmr
                  have HMB := Lib.hid hmb
                  clear hmb
                  have C37 : Hid (∀ V, Below W10.heap.size W10 V → Calls Tryz.prog 19 #[.slice At lt ct, .slice A xn cc] V fun e w' => e = .returned (.tuple #[.agg #[.int .i64 m1, .int .i64 m2], .bool mb]) ∧ Below V.heap.size V w') := fun V hV => by
                    have h1 := rmissing_any W10.heap.size At A L xo ct cc V ((HS10.out.more hlo10).below hV) (HPS.out.below hV) hV.size (by rw [← HLT.out]; omega) (by omega)
                    rw [← HLT.out, hxl9, hmr] at h1
                    exact h1
                  have HNE : Hid ((!mb) = (e0 && okE (c.sub k l) xo (sb.take (q + 1)))) := by
                    show _ = _
                    rw [HES.out, ← Bool.and_assoc, ← HO.out, Bool.true_and, Int.toNat_natCast, HCI.out, HMB.out]
                    rcases misP L xo with _ | p <;> rfl
                  clear hmr hxl9 HS10 HPS HES HO HCI HMB
                  go_upto_region 18 with fail
                  have HS37 : Hid (∀ V, Below W10.heap.size W10 V → V.cell? ⟨ob, 7, none⟩ = some (.slice (some ⟨g, 0, none⟩) nb cv3) ∧ V.cell? ⟨b5, o5 + q, none⟩ = some (.int .i64 (tt : Int)) ∧ V.cell? ⟨g, tt, none⟩ = some (.slice At lt ct) ∧ V.cell? ⟨xb, 0, none⟩ = some (.slice A xn cc)) := fun V h => ⟨(h.cell (p := ⟨ob, 7, none⟩) g7).trans f7, (h.cell (p := ⟨b5, o5 + q, none⟩) g5).trans hto10, (h.cell (p := ⟨g, tt, none⟩) g3).trans hc10, (h.cell (p := ⟨xb, 0, none⟩) gx).trans x0⟩
                  go_cut [15, 16] from 111 to 124 (fun s15 s16 wx => s16 = .bool mb ∧ Hid (Below W10.heap.size W10 wx))
                  case first =>
                    go_wp2_with fail
                    refine wp_region_held_drew (S := fun w' => w'.cell? ⟨ob, 7, none⟩ = some (.slice (some ⟨g, 0, none⟩) nb cv3) ∧ w'.cell? ⟨b5, o5 + q, none⟩ = some (.int .i64 (tt : Int)) ∧ w'.cell? ⟨g, tt, none⟩ = some (.slice At lt ct) ∧ w'.cell? ⟨xb, 0, none⟩ = some (.slice A xn cc)) (by kernel_rfl) (HS37.out _ (Below.refl _ _).drew) (fun hHeld => ?_)
                    have HB0 : Hid (Below W10.heap.size W10 W10.drew) := (Below.refl _ _).drew
                    generalize hVV : W10.drew = V0 at *
                    clear hVV
                    refine take_at 0 112 (.pointer (some ⟨ob, 7, none⟩)) rfl rfl (by kernel_rfl) (by kernel_rfl) (by kernel_rfl) (fun _ _ _ h => h) (Or.inl ⟨by rfl, ?_⟩) hHeld ?_
                    · intro w9 hSw
                      (try dsimp only at hSw)
                      go_simp
                      all_goals (first | (intro h9; omega) | omega)
                    (try simp only [Act.put, List.setIfInBounds_toArray, List.set_cons_zero, List.set_cons_succ])
                    refine take_at 1 113 (.slice (some ⟨g, 0, none⟩) nb cv3) rfl rfl (by kernel_rfl) (by kernel_rfl) (by kernel_rfl) (fun _ _ _ h => h) (Or.inl ⟨by rfl, ?_⟩) hHeld ?_
                    · intro w9 hSw
                      (try dsimp only at hSw)
                      go_simp
                      all_goals (first | (intro h9; omega) | omega)
                    (try simp only [Act.put, List.setIfInBounds_toArray, List.set_cons_zero, List.set_cons_succ])
                    refine take_at 2 114 (.slice (some ⟨b5, o5, none⟩) ns cs) rfl rfl (by kernel_rfl) (by kernel_rfl) (by kernel_rfl) (fun _ _ _ h => h) (Or.inl ⟨by rfl, ?_⟩) hHeld ?_
                    · intro w9 hSw
                      (try dsimp only at hSw)
                      go_simp
                      all_goals (first | (intro h9; omega) | omega)
                    (try simp only [Act.put, List.setIfInBounds_toArray, List.set_cons_zero, List.set_cons_succ])
                    refine take_at 3 115 (.int .i64 q) rfl rfl (by kernel_rfl) (by kernel_rfl) (by kernel_rfl) (fun _ _ _ h => h) (Or.inl ⟨by rfl, ?_⟩) hHeld ?_
                    · intro w9 hSw
                      (try dsimp only at hSw)
                      go_simp
                      all_goals (first | (intro h9; omega) | omega)
                    (try simp only [Act.put, List.setIfInBounds_toArray, List.set_cons_zero, List.set_cons_succ])
                    refine take_at 4 116 (.pointer (some ⟨b5, o5 + q, none⟩)) rfl rfl (by kernel_rfl) (by kernel_rfl) (by kernel_rfl) (fun _ _ _ h => h) (Or.inl ⟨by rfl, ?_⟩) hHeld ?_
                    · intro w9 hSw
                      (try dsimp only at hSw)
                      go_simp
                      all_goals (first | (intro h9; omega) | omega)
                    (try simp only [Act.put, List.setIfInBounds_toArray, List.set_cons_zero, List.set_cons_succ])
                    refine take_at 5 117 (.int .i64 tt) rfl rfl (by kernel_rfl) (by kernel_rfl) (by kernel_rfl) (fun _ _ _ h => h) (Or.inl ⟨by rfl, ?_⟩) hHeld ?_
                    · intro w9 hSw
                      (try dsimp only at hSw)
                      go_simp
                      all_goals (first | (intro h9; omega) | omega)
                    (try simp only [Act.put, List.setIfInBounds_toArray, List.set_cons_zero, List.set_cons_succ])
                    refine take_at 6 118 (.pointer (some ⟨g, tt, none⟩)) rfl rfl (by kernel_rfl) (by kernel_rfl) (by kernel_rfl) (fun _ _ _ h => h) (Or.inl ⟨by rfl, ?_⟩) hHeld ?_
                    · intro w9 hSw
                      (try dsimp only at hSw)
                      go_simp
                      all_goals (first | (intro h9; omega) | omega)
                    (try simp only [Act.put, List.setIfInBounds_toArray, List.set_cons_zero, List.set_cons_succ])
                    refine take_at 7 119 (.slice At lt ct) rfl rfl (by kernel_rfl) (by kernel_rfl) (by kernel_rfl) (fun _ _ _ h => h) (Or.inl ⟨by rfl, ?_⟩) hHeld ?_
                    · intro w9 hSw
                      (try dsimp only at hSw)
                      go_simp
                      all_goals (first | (intro h9; omega) | omega)
                    (try simp only [Act.put, List.setIfInBounds_toArray, List.set_cons_zero, List.set_cons_succ])
                    refine take_at 8 120 (.pointer (some ⟨xb, 0, none⟩)) rfl rfl (by kernel_rfl) (by kernel_rfl) (by kernel_rfl) (fun _ _ _ h => h) (Or.inl ⟨by rfl, ?_⟩) hHeld ?_
                    · intro w9 hSw
                      (try dsimp only at hSw)
                      go_simp
                      all_goals (first | (intro h9; omega) | omega)
                    (try simp only [Act.put, List.setIfInBounds_toArray, List.set_cons_zero, List.set_cons_succ])
                    refine take_at 9 121 (.slice A xn cc) rfl rfl (by kernel_rfl) (by kernel_rfl) (by kernel_rfl) (fun _ _ _ h => h) (Or.inl ⟨by rfl, ?_⟩) hHeld ?_
                    · intro w9 hSw
                      (try dsimp only at hSw)
                      go_simp
                      all_goals (first | (intro h9; omega) | omega)
                    (try simp only [Act.put, List.setIfInBounds_toArray, List.set_cons_zero, List.set_cons_succ])
                    refine wpAnyH_ready (rs := [10, 14]) (by kernel_rfl) (by simp) ?_
                    refine AllReadyH.cons rfl (fun K hK => ?_) ?_
                    · go_simp
                      refine (C37.out V0 HB0.out).mono ?_
                      rintro e V1 ⟨rfl, hb⟩
                      (try go_wp2_with fail)
                      have HB1 := Lib.hid (HB0.out.trans (hb.mono HB0.out.size))
                      refine hK.out _ _ (HS37.out _ HB1.out) (fun hHeld => ?_)
                      clear hK K
                      refine take_at 11 111 (.tuple #[.agg #[.int .i64 m1, .int .i64 m2], .bool mb]) rfl rfl (by kernel_rfl) (by kernel_rfl) (by kernel_rfl) (fun _ _ _ h => h) (Or.inl ⟨by rfl, ?_⟩) hHeld ?_
                      · intro w9 hSw
                        (try dsimp only at hSw)
                        go_simp
                        all_goals (first | (intro h9; omega) | omega)
                      (try simp only [Act.put, List.setIfInBounds_toArray, List.set_cons_zero, List.set_cons_succ])
                      refine take_at 12 123 (.agg #[.int .i64 m1, .int .i64 m2]) rfl rfl (by kernel_rfl) (by kernel_rfl) (by kernel_rfl) (fun _ _ _ h => h) (Or.inl ⟨by rfl, ?_⟩) hHeld ?_
                      · intro w9 hSw
                        (try dsimp only at hSw)
                        go_simp
                        all_goals (first | (intro h9; omega) | omega)
                      (try simp only [Act.put, List.setIfInBounds_toArray, List.set_cons_zero, List.set_cons_succ])
                      refine take_at 13 124 (.bool mb) rfl rfl (by kernel_rfl) (by kernel_rfl) (by kernel_rfl) (fun _ _ _ h => h) (Or.inl ⟨by rfl, ?_⟩) hHeld ?_
                      · intro w9 hSw
                        (try dsimp only at hSw)
                        go_simp
                        all_goals (first | (intro h9; omega) | omega)
                      (try simp only [Act.put, List.setIfInBounds_toArray, List.set_cons_zero, List.set_cons_succ])
                      refine wpAnyH_ready (rs := [14]) (by kernel_rfl) (by simp) ?_
                      refine AllReadyH.cons rfl (fun K hK => ?_) ?_
                      · go_simp
                        have HB2 := Lib.hid (HB1.out.alloc HB1.out.size (.cells #[.int .i64 0, .int .i64 0] 59))
                        have HRO := Lib.hid (Row.new V1 59 #[.int .i64 0, .int .i64 0])
                        have hpb : W10.heap.size ≤ V1.heap.size := HB1.out.size
                        refine hK.out _ _ (HS37.out _ HB2.out) (fun hHeld => ?_)
                        clear hK K
                        generalize V1.heap.size = pb at *
                        generalize V1.alloc (.cells #[.int .i64 0, .int .i64 0] 59) = V2 at *
                        refine wpAnyH_ready (rs := [15]) (by kernel_rfl) (by simp) ?_
                        refine AllReadyH.cons rfl (fun K hK => ?_) ?_
                        · have hrow := HRO.out
                          have f0 := hrow.cell 0; have f1 := hrow.cell 1
                          simp only [List.getElem?_toArray, List.getElem?_cons_zero, List.getElem?_cons_succ] at f0 f1
                          have q0 := hrow.frozen 0; have q1 := hrow.frozen 1
                          have HB9 := Lib.hid ((HB2.out.setCell (p := ⟨pb, 0, none⟩) hpb (.int .i64 m1)).setCell (p := ⟨pb, 1, none⟩) hpb (.int .i64 m2))
                          go_simp
                          refine hK.out _ _ (HS37.out _ HB9.out) (fun hHeld => ?_)
                          clear hK K f0 f1 q0 q1 hrow
                          refine take_at 16 16 (.bool mb) rfl rfl (by kernel_rfl) (by kernel_rfl) (by kernel_rfl) (fun _ _ _ h => h) (Or.inl ⟨by rfl, ?_⟩) hHeld ?_
                          · intro w9 hSw
                            (try dsimp only at hSw)
                            go_simp
                            all_goals (first | (intro h9; omega) | omega)
                          (try simp only [Act.put, List.setIfInBounds_toArray, List.set_cons_zero, List.set_cons_succ])
                          refine wpAnyH_done (by kernel_rfl) ?_ _
                          clear hHeld
                          go_wp2_with fail
                          go_meet
                          case rel => exact ⟨rfl, HB9.out⟩
                        exact AllReadyH.nil
                      exact AllReadyH.nil
                    refine AllReadyH.cons rfl (fun K hK => ?_) ?_
                    · go_simp
                      have HB1 := Lib.hid (HB0.out.alloc HB0.out.size (.cells #[.int .i64 0, .int .i64 0] 59))
                      have HRO := Lib.hid (Row.new V0 59 #[.int .i64 0, .int .i64 0])
                      have hpb : W10.heap.size ≤ V0.heap.size := HB0.out.size
                      refine hK.out _ _ (HS37.out _ HB1.out) (fun hHeld => ?_)
                      clear hK K
                      generalize V0.heap.size = pb at *
                      generalize V0.alloc (.cells #[.int .i64 0, .int .i64 0] 59) = V1 at *
                      refine wpAnyH_ready (rs := [10]) (by kernel_rfl) (by simp) ?_
                      refine AllReadyH.cons rfl (fun K hK => ?_) ?_
                      · go_simp
                        refine (C37.out V1 HB1.out).mono ?_
                        rintro e V2 ⟨rfl, hb⟩
                        (try go_wp2_with fail)
                        have HB2 := Lib.hid (HB1.out.trans (hb.mono HB1.out.size))
                        refine hK.out _ _ (HS37.out _ HB2.out) (fun hHeld => ?_)
                        clear hK K
                        have HR2 := Lib.hid (HRO.out.below hb HRO.out.lt)
                        refine take_at 11 111 (.tuple #[.agg #[.int .i64 m1, .int .i64 m2], .bool mb]) rfl rfl (by kernel_rfl) (by kernel_rfl) (by kernel_rfl) (fun _ _ _ h => h) (Or.inl ⟨by rfl, ?_⟩) hHeld ?_
                        · intro w9 hSw
                          (try dsimp only at hSw)
                          go_simp
                          all_goals (first | (intro h9; omega) | omega)
                        (try simp only [Act.put, List.setIfInBounds_toArray, List.set_cons_zero, List.set_cons_succ])
                        refine take_at 12 123 (.agg #[.int .i64 m1, .int .i64 m2]) rfl rfl (by kernel_rfl) (by kernel_rfl) (by kernel_rfl) (fun _ _ _ h => h) (Or.inl ⟨by rfl, ?_⟩) hHeld ?_
                        · intro w9 hSw
                          (try dsimp only at hSw)
                          go_simp
                          all_goals (first | (intro h9; omega) | omega)
                        (try simp only [Act.put, List.setIfInBounds_toArray, List.set_cons_zero, List.set_cons_succ])
                        refine take_at 13 124 (.bool mb) rfl rfl (by kernel_rfl) (by kernel_rfl) (by kernel_rfl) (fun _ _ _ h => h) (Or.inl ⟨by rfl, ?_⟩) hHeld ?_
                        · intro w9 hSw
                          (try dsimp only at hSw)
                          go_simp
                          all_goals (first | (intro h9; omega) | omega)
                        (try simp only [Act.put, List.setIfInBounds_toArray, List.set_cons_zero, List.set_cons_succ])
                        refine wpAnyH_ready (rs := [15]) (by kernel_rfl) (by simp) ?_
                        refine AllReadyH.cons rfl (fun K hK => ?_) ?_
                        · have hrow := HR2.out
                          have f0 := hrow.cell 0; have f1 := hrow.cell 1
                          simp only [List.getElem?_toArray, List.getElem?_cons_zero, List.getElem?_cons_succ] at f0 f1
                          have q0 := hrow.frozen 0; have q1 := hrow.frozen 1
                          have HB9 := Lib.hid ((HB2.out.setCell (p := ⟨pb, 0, none⟩) hpb (.int .i64 m1)).setCell (p := ⟨pb, 1, none⟩) hpb (.int .i64 m2))
                          go_simp
                          refine hK.out _ _ (HS37.out _ HB9.out) (fun hHeld => ?_)
                          clear hK K f0 f1 q0 q1 hrow
                          refine take_at 16 16 (.bool mb) rfl rfl (by kernel_rfl) (by kernel_rfl) (by kernel_rfl) (fun _ _ _ h => h) (Or.inl ⟨by rfl, ?_⟩) hHeld ?_
                          · intro w9 hSw
                            (try dsimp only at hSw)
                            go_simp
                            all_goals (first | (intro h9; omega) | omega)
                          (try simp only [Act.put, List.setIfInBounds_toArray, List.set_cons_zero, List.set_cons_succ])
                          refine wpAnyH_done (by kernel_rfl) ?_ _
                          clear hHeld
                          go_wp2_with fail
                          go_meet
                          case rel => exact ⟨rfl, HB9.out⟩
                        exact AllReadyH.nil
                      exact AllReadyH.nil
                    exact AllReadyH.nil
                  case rest =>
                    obtain ⟨rfl, HBC⟩ := hcut
                    clear HS37 C37 f7 x0 hto10 hc10
                    have HX11 := Lib.hid (HX10.out.next HBC.out)
                    have HSE11 := Lib.hid ((HSE10.out.below HBC.out).more HBC.out.size)
                    clear HX10 HSE10 HBC
                    generalize hwcc : wc = W12 at *
                    clear hwcc
                    go_wp2
                    go_roundg (ns - (q + 1))
                    case measure => omega
                    case rel => exact ⟨q + 1, !mb, by omega, rfl, by go_num, HNE.out, HX11.out, HSE11.out⟩
              · have hqz : ¬ (q : Int) < (ns : Int) := by omega
                have HF := Lib.hid (HFIN.out o' q HO.out (.inr (by omega)))
                have HSX := Lib.hid HX10.out.sb
                have f0 := HSX.out.row.cell 0; have f1 := HSX.out.row.cell 1; have f2 := HSX.out.row.cell 2; have f3 := HSX.out.row.cell 3
                have f4 := HSX.out.row.cell 4; have f5 := HSX.out.row.cell 5; have f6 := HSX.out.row.cell 6; have f7 := HSX.out.row.cell 7
                simp only [List.getElem?_toArray, List.getElem?_cons_zero, List.getElem?_cons_succ] at f0 f1 f2 f3 f4 f5 f6 f7
                have C20 := Lib.hid (C20A.out W10 HSX.out)
                clear HX10 HSE10
                go_wp2_with fail
                refine C20.out.mono ?_
                rintro e W20 ⟨rfl, hb⟩
                have HS20 := Lib.hid (HSX.out.next hb)
                clear f0 f1 f2 f3 f4 f5 f6 f7 HSX C20 hb
                have HAO : Hid ((o' = true → (checkC (c.sub k l)).err = 0) ∧ (o' = false → (checkC (c.sub k l)).err ≠ 0 ∧ (checkC (c.sub k l)).blk = k)) := by
                  refine ⟨fun h => HAS.out.1 ((okBb_iff _ _).1 (by rw [← HF.out]; exact h)), fun h => HAS.out.2 fun hh => ?_⟩
                  have := (okBb_iff _ _).2 hh
                  rw [← HF.out, h] at this
                  cases this
                generalize checkC (c.sub k l) = r at *
                have hba := (Below.refl W20.heap.size W20).alloc (Nat.le_refl _) (.cells #[.int .i64 r.err, .int .i64 (r.blk : Int), .int .i64 (r.at_ : Int), .int .i64 (r.blocks : Int), .int .i64 (r.edges : Int), .int .i64 (r.steps : Int), .int .i64 (r.largest : Int)] 37)
                have HRO := Lib.hid (Row.new W20 37 #[.int .i64 r.err, .int .i64 (r.blk : Int), .int .i64 (r.at_ : Int), .int .i64 (r.blocks : Int), .int .i64 (r.edges : Int), .int .i64 (r.steps : Int), .int .i64 (r.largest : Int)])
                have HS21 := Lib.hid (HS20.out.next hba)
                clear hba HS20
                go_upto_region 21 with fail
                generalize (W20.alloc (.cells #[.int .i64 r.err, .int .i64 (r.blk : Int), .int .i64 (r.at_ : Int), .int .i64 (r.blocks : Int), .int .i64 (r.edges : Int), .int .i64 (r.steps : Int), .int .i64 (r.largest : Int)] 37)) = W21 at *
                generalize W20.heap.size = rb at *
                have r0 := HRO.out.cell 0; have r1 := HRO.out.cell 1
                simp only [List.getElem?_toArray, List.getElem?_cons_zero, List.getElem?_cons_succ] at r0 r1
                cases o'
                · obtain ⟨h1, h2⟩ := HAO.out.2 (by trivial)
                  have e1 : (r.err != 0) = true := by simp [h1]
                  have e2 : ((r.blk : Int) == (k : Int)) = true := by simp [h2]
                  clear HAO h1 h2
                  go_wp2
                  go_ret
                  exact ⟨rfl, HS21.out.ck.blw⟩
                · have e1 : (r.err == 0) = true := by simp [HAO.out.1 (by trivial)]
                  clear HAO
                  go_wp2
                  go_ret
                  exact ⟨rfl, HS21.out.ck.blw⟩
    · have e1 : ((checkC c).err != 0) = true := by simp [hacc]
      have hfld := fun W => rp_err9 (.int .i64 (checkC c).err) (.int .i64 ((checkC c).blk : Int)) (.int .i64 ((checkC c).at_ : Int)) (.int .i64 ((checkC c).blocks : Int)) (.int .i64 ((checkC c).edges : Int)) (.int .i64 ((checkC c).steps : Int)) (.int .i64 ((checkC c).largest : Int)) W
      clear hacc
      obtain ⟨r0, hr0⟩ : ∃ z, z = checkC c := ⟨_, rfl⟩
      rw [← hr0] at e1 hfld ⊢
      clear hr0
      go_wp2_with fail
      refine (AW.out _).mono ?_
      rintro e W9 ⟨rfl, hb⟩
      have HZ := Lib.hid (HK3.out.next hb)
      clear hb HK3
      go_wp2
      go_ret
      exact ⟨rfl, HZ.out.blw⟩

end Go.Proofs.YtapdheabblgbaaaGreat
