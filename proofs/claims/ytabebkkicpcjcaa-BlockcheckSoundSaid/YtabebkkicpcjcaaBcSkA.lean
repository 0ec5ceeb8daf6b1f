/-
  A piece of the walk of the statement on soundness.
-/
import Derived.Test.YtabebkkicpcjcaaBcSk
namespace Go.Proofs.Ytabebkkicpcjcaa
open Go.RowKit
set_option linter.unusedVariables false

set_option maxRecDepth 100000 in
set_option maxHeartbeats 64000000 in
theorem sound_pA : soundSk.P := by
  intro cap2 z2 a3 len3 cap3 z3 a4 len4 cap4 z4 a5 len5 cap5 w x yr ys i0 hi0 hz0 hz1 hz2 A1 c1 A2 c2 code bt mach mt n1 n2 HN1 HN2 e2 q3 e3 HXW HRW HSW HD i1 W0 W1 W2 hr9 hs9 HQ HB1 HB2 i2 i3 i4 i5 u16 u51 u52 u53 u54 i6 i7 i8 i9 i10 i11 i12 i13 i14 i15 i16 i17 i18 i19 i20 i21 i22 i23 i24 i25 i26 i27 i28 i29 i30 i31 i32 i33 i34 i35 i36 i37 i38 i39 i40 i41 i42 i43 i44 i45 i46 i47 i48 i49 i50 i51 i52 i53 i54 i55 i56 i57 i58 i59 i60 i61 i62 i63 i64 i65 i66 i67 i68 i69 i70 i71 i72 i73 i74 i75 i76 i77 i78 i79 i80 i81 i82 i83 i84 i85 i86 i87 k i88 i89 hg i90 hk hkz bx ox HK2 i91 hbx xv hcx HXV Wo HN i92 i93 T hT hT1 hT2 hT3 gk wr u13 u55 u56 u57 u58 u59 u60 u61 u62 u63 u64 u65 u66 u67 u68 u69 u70 u71 u72 u73 u74 u75 u76 u77 u78 u79 u80 u81 u82 u83 u84 u85 u86 u87 u88 u89 u90 u91 u92 u93 u94 u95 u96 u97 u98 u99 u100 u101 u102 u103 u104 u105 u106 u107 u108 u109 u110 u111 u112 u113 u114 u115 u116 u117 u118 u119 u120 u121 u122 u123 u124 u125 u126 u127 u128 u129 u130 u131 u132 u133 i94 i95 i96 i97 t n o hgt hn HI HP
  by_cases ht : t < T
  · have e31 : (20 : Int) * 1 = 20 := by decide
    by_cases htr : (t : Int) < 2 * (len3 : Int)
    · obtain ⟨h, hh⟩ : ∃ h : Nat, t = 2 * h ∨ t = 2 * h + 1 := ⟨t / 2, by omega⟩
      rcases hh with hh | hh
      · have hm2 : (t : Int) % 2 = 0 := by omega
        have hq2 : (t : Int) / 2 = (h : Int) := by omega
        have hl3 : h < len3 := by omega
        have hz3 : (h : Int) < (len3 : Int) := by omega
        obtain ⟨br, orr, rfl, hbr, hcr⟩ := HK2.out.r.at hl3
        have d1 := (HP.out.blw.cell (p := ⟨bx, _, none⟩) hbx).trans hcx
        have d2 := (HP.out.blw.cell (p := ⟨br, _, none⟩) hbr).trans hcr
        have HRD : Hid (rd2 yr ys (t : Int) = yr.getD h 0) := rd2_even hh
        have HLO : Hid (LocOk len3 len4 (t : Int)) := locOk_even hh hl3
        clear hh
        obtain ⟨rv, hrv⟩ : ∃ z, z = yr.getD h 0 := ⟨_, rfl⟩
        rw [← hrv] at d2 HRD
        clear hrv hcr
        as_aux_lemma =>
          go_upto_region 11 with fail
          by_cases hxy : rv = xv
          · have e1 : (rv == xv) = true := by simp [hxy]
            have HPU := Lib.hid (HI.out.push hk HLO.out (HRD.out.trans (hxy.trans HXV.out)))
            clear hxy HRD HLO
            go_quiet (fail)
            have HP2 := Lib.hid (HP.out.grew ((Grew.refl wr).drewN nq))
            generalize wr.drewN nq = W3 at *
            clear HP d1
            by_cases hdl : n < len5
            · have hdz : (n : Int) < (len5 : Int) := by omega
              have hdd : decide ((len5 : Int) ≤ (n : Int)) = false := by simp; omega
              obtain ⟨z, b2, o2, rfl, hb2, hc2⟩ := HD.out.2.2 n hdl
              have f2 := ((HK2.out.k.blw.trans (HP2.out.blw.mono HK2.out.k.blw.size)).cell (p := ⟨b2, _, none⟩) hb2).trans hc2
              clear hc2
              cases z
              · have hol := HI.out.len hr9 hs9
                go_upto_region 13 with fail
                clear HI
                have hown := (HP2.out.alloc (prObj (k : Int) (t : Int))).own
                have hnew := new_sees W3 (k : Int) (t : Int)
                go_wp2_with (at_builtin; refine wpList_append_any _ rfl (.tmp 126) (.tmp 130) 30 rfl _ 48 i0 (.agg #[.int .i64 0, .int .i64 0]) 2 16 Try.underlying30 hi0 hz0 hz1 hz2 rfl (by decide) _ _ _ rfl hown (W3.heap.size + 1) _ 1 1 _ rfl hnew rfl (prs_one _) ?c1 ?c2 ?c3 ?_)
                case c1 => have := hol; unfold maxLen; omega
                case c2 => have := hol; omega
                case c3 => have := HP2.out.blw.size; simp; omega
                intro v3 W4 ho2 hg2 hb2
                have HP4 := Lib.hid (HP2.out.push (k : Int) (t : Int) (by first | rfl | simp) ho2 hg2)
                clear ho2 hg2 hb2 hown hnew
                go_wp2
                go_roundg (T - (t + 1))
                case measure => omega
                case rel => exact ⟨t + 1, n + 1, _, by omega, by omega, by go_num, by go_num, HPU.out, HP4.out⟩
              · have HI2 := Lib.hid HI.out.skip
                clear HI
                go_wp2
                go_roundg (T - (t + 1))
                case measure => omega
                case rel => exact ⟨t + 1, n + 1, o, by omega, by omega, by go_num, by go_num, HI2.out, HP2.out⟩
            · have hdz : ¬ (n : Int) < (len5 : Int) := by omega
              have hdw : (len5 : Int) ≤ (n : Int) := by omega
              have hdd : decide ((len5 : Int) ≤ (n : Int)) = true := by simp; omega
              have hol := HI.out.len hr9 hs9
              go_upto_region 13 with fail
              clear HI
              have hown := (HP2.out.alloc (prObj (k : Int) (t : Int))).own
              have hnew := new_sees W3 (k : Int) (t : Int)
              go_wp2_with (at_builtin; refine wpList_append_any _ rfl (.tmp 126) (.tmp 130) 30 rfl _ 48 i0 (.agg #[.int .i64 0, .int .i64 0]) 2 16 Try.underlying30 hi0 hz0 hz1 hz2 rfl (by decide) _ _ _ rfl hown (W3.heap.size + 1) _ 1 1 _ rfl hnew rfl (prs_one _) ?c1 ?c2 ?c3 ?_)
              case c1 => have := hol; unfold maxLen; omega
              case c2 => have := hol; omega
              case c3 => have := HP2.out.blw.size; simp; omega
              intro v3 W4 ho2 hg2 hb2
              have HP4 := Lib.hid (HP2.out.push (k : Int) (t : Int) (by first | rfl | simp) ho2 hg2)
              clear ho2 hg2 hb2 hown hnew
              go_wp2
              go_roundg (T - (t + 1))
              case measure => omega
              case rel => exact ⟨t + 1, n + 1, _, by omega, by omega, by go_num, by go_num, HPU.out, HP4.out⟩
          · have e1 : (rv == xv) = false := by simp [hxy]
            clear hxy HRD HLO
            go_quiet (fail)
            have HP2 := Lib.hid (HP.out.grew ((Grew.refl wr).drewN nq))
            have HI2 := Lib.hid HI.out.skip
            generalize wr.drewN nq = W3 at *
            clear HP HI d1
            go_wp2
            go_roundg (T - (t + 1))
            case measure => omega
            case rel => exact ⟨t + 1, n, o, by omega, by omega, by go_num, rfl, HI2.out, HP2.out⟩
      · have hm2 : (t : Int) % 2 = 1 := by omega
        have hq2 : (t : Int) / 2 = (h : Int) := by omega
        by_cases hl4 : h < len4
        · have hz4 : (h : Int) < (len4 : Int) := by omega
          obtain ⟨br, orr, rfl, hbr, hcr⟩ := HK2.out.s.at hl4
          have d1 := (HP.out.blw.cell (p := ⟨bx, _, none⟩) hbx).trans hcx
          have d2 := (HP.out.blw.cell (p := ⟨br, _, none⟩) hbr).trans hcr
          have HRD : Hid (rd2 yr ys (t : Int) = ys.getD h 0) := rd2_odd hh
          have HLO : Hid (LocOk len3 len4 (t : Int)) := locOk_odd hh hl4
          clear hh
          obtain ⟨rv, hrv⟩ : ∃ z, z = ys.getD h 0 := ⟨_, rfl⟩
          rw [← hrv] at d2 HRD
          clear hrv hcr
          as_aux_lemma =>
            go_upto_region 11 with fail
            by_cases hxy : rv = xv
            · have e1 : (rv == xv) = true := by simp [hxy]
              have HPU := Lib.hid (HI.out.push hk HLO.out (HRD.out.trans (hxy.trans HXV.out)))
              clear hxy HRD HLO
              go_quiet (fail)
              have HP2 := Lib.hid (HP.out.grew ((Grew.refl wr).drewN nq))
              generalize wr.drewN nq = W3 at *
              clear HP d1
              by_cases hdl : n < len5
              · have hdz : (n : Int) < (len5 : Int) := by omega
                have hdd : decide ((len5 : Int) ≤ (n : Int)) = false := by simp; omega
                obtain ⟨z, b2, o2, rfl, hb2, hc2⟩ := HD.out.2.2 n hdl
                have f2 := ((HK2.out.k.blw.trans (HP2.out.blw.mono HK2.out.k.blw.size)).cell (p := ⟨b2, _, none⟩) hb2).trans hc2
                clear hc2
                cases z
                · have hol := HI.out.len hr9 hs9
                  go_upto_region 13 with fail
                  clear HI
                  have hown := (HP2.out.alloc (prObj (k : Int) (t : Int))).own
                  have hnew := new_sees W3 (k : Int) (t : Int)
                  go_wp2_with (at_builtin; refine wpList_append_any _ rfl (.tmp 126) (.tmp 130) 30 rfl _ 48 i0 (.agg #[.int .i64 0, .int .i64 0]) 2 16 Try.underlying30 hi0 hz0 hz1 hz2 rfl (by decide) _ _ _ rfl hown (W3.heap.size + 1) _ 1 1 _ rfl hnew rfl (prs_one _) ?c1 ?c2 ?c3 ?_)
                  case c1 => have := hol; unfold maxLen; omega
                  case c2 => have := hol; omega
                  case c3 => have := HP2.out.blw.size; simp; omega
                  intro v3 W4 ho2 hg2 hb2
                  have HP4 := Lib.hid (HP2.out.push (k : Int) (t : Int) (by first | rfl | simp) ho2 hg2)
                  clear ho2 hg2 hb2 hown hnew
                  go_wp2
                  go_roundg (T - (t + 1))
                  case measure => omega
                  case rel => exact ⟨t + 1, n + 1, _, by omega, by omega, by go_num, by go_num, HPU.out, HP4.out⟩
                · have HI2 := Lib.hid HI.out.skip
                  clear HI
                  go_wp2
                  go_roundg (T - (t + 1))
                  case measure => omega
                  case rel => exact ⟨t + 1, n + 1, o, by omega, by omega, by go_num, by go_num, HI2.out, HP2.out⟩
              · have hdz : ¬ (n : Int) < (len5 : Int) := by omega
                have hdw : (len5 : Int) ≤ (n : Int) := by omega
                have hdd : decide ((len5 : Int) ≤ (n : Int)) = true := by simp; omega
                have hol := HI.out.len hr9 hs9
                go_upto_region 13 with fail
                clear HI
                have hown := (HP2.out.alloc (prObj (k : Int) (t : Int))).own
                have hnew := new_sees W3 (k : Int) (t : Int)
                go_wp2_with (at_builtin; refine wpList_append_any _ rfl (.tmp 126) (.tmp 130) 30 rfl _ 48 i0 (.agg #[.int .i64 0, .int .i64 0]) 2 16 Try.underlying30 hi0 hz0 hz1 hz2 rfl (by decide) _ _ _ rfl hown (W3.heap.size + 1) _ 1 1 _ rfl hnew rfl (prs_one _) ?c1 ?c2 ?c3 ?_)
                case c1 => have := hol; unfold maxLen; omega
                case c2 => have := hol; omega
                case c3 => have := HP2.out.blw.size; simp; omega
                intro v3 W4 ho2 hg2 hb2
                have HP4 := Lib.hid (HP2.out.push (k : Int) (t : Int) (by first | rfl | simp) ho2 hg2)
                clear ho2 hg2 hb2 hown hnew
                go_wp2
                go_roundg (T - (t + 1))
                case measure => omega
                case rel => exact ⟨t + 1, n + 1, _, by omega, by omega, by go_num, by go_num, HPU.out, HP4.out⟩
            · have e1 : (rv == xv) = false := by simp [hxy]
              clear hxy HRD HLO
              go_quiet (fail)
              have HP2 := Lib.hid (HP.out.grew ((Grew.refl wr).drewN nq))
              have HI2 := Lib.hid HI.out.skip
              generalize wr.drewN nq = W3 at *
              clear HP HI d1
              go_wp2
              go_roundg (T - (t + 1))
              case measure => omega
              case rel => exact ⟨t + 1, n, o, by omega, by omega, by go_num, rfl, HI2.out, HP2.out⟩
        · have hz4 : ¬ (h : Int) < (len4 : Int) := by omega
          have d1 := (HP.out.blw.cell (p := ⟨bx, _, none⟩) hbx).trans hcx
          clear hh
          as_aux_lemma =>
            go_upto_region 11 with fail
            go_quiet (fail)
            have HP2 := Lib.hid (HP.out.grew ((Grew.refl wr).drewN nq))
            have HI2 := Lib.hid HI.out.skip
            generalize wr.drewN nq = W3 at *
            clear HP HI d1
            go_wp2
            go_roundg (T - (t + 1))
            case measure => omega
            case rel => exact ⟨t + 1, n, o, by omega, by omega, by go_num, rfl, HI2.out, HP2.out⟩
    · have hts : (t : Int) < 2 * (len4 : Int) := by omega
      obtain ⟨h, hh⟩ : ∃ h : Nat, t = 2 * h ∨ t = 2 * h + 1 := ⟨t / 2, by omega⟩
      rcases hh with hh | hh
      · have hm2 : (t : Int) % 2 = 0 := by omega
        have hq2 : (t : Int) / 2 = (h : Int) := by omega
        have hz3 : ¬ (h : Int) < (len3 : Int) := by omega
        have d1 := (HP.out.blw.cell (p := ⟨bx, _, none⟩) hbx).trans hcx
        clear hh
        as_aux_lemma =>
          go_upto_region 11 with fail
          go_quiet (fail)
          have HP2 := Lib.hid (HP.out.grew ((Grew.refl wr).drewN nq))
          have HI2 := Lib.hid HI.out.skip
          generalize wr.drewN nq = W3 at *
          clear HP HI d1
          go_wp2
          go_roundg (T - (t + 1))
          case measure => omega
          case rel => exact ⟨t + 1, n, o, by omega, by omega, by go_num, rfl, HI2.out, HP2.out⟩
      · have hm2 : (t : Int) % 2 = 1 := by omega
        have hq2 : (t : Int) / 2 = (h : Int) := by omega
        have hl4 : h < len4 := by omega
        have hz4 : (h : Int) < (len4 : Int) := by omega
        obtain ⟨br, orr, rfl, hbr, hcr⟩ := HK2.out.s.at hl4
        have d1 := (HP.out.blw.cell (p := ⟨bx, _, none⟩) hbx).trans hcx
        have d2 := (HP.out.blw.cell (p := ⟨br, _, none⟩) hbr).trans hcr
        have HRD : Hid (rd2 yr ys (t : Int) = ys.getD h 0) := rd2_odd hh
        have HLO : Hid (LocOk len3 len4 (t : Int)) := locOk_odd hh hl4
        clear hh
        obtain ⟨rv, hrv⟩ : ∃ z, z = ys.getD h 0 := ⟨_, rfl⟩
        rw [← hrv] at d2 HRD
        clear hrv hcr
        as_aux_lemma =>
          go_upto_region 11 with fail
          by_cases hxy : rv = xv
          · have e1 : (rv == xv) = true := by simp [hxy]
            have HPU := Lib.hid (HI.out.push hk HLO.out (HRD.out.trans (hxy.trans HXV.out)))
            clear hxy HRD HLO
            go_quiet (fail)
            have HP2 := Lib.hid (HP.out.grew ((Grew.refl wr).drewN nq))
            generalize wr.drewN nq = W3 at *
            clear HP d1
            by_cases hdl : n < len5
            · have hdz : (n : Int) < (len5 : Int) := by omega
              have hdd : decide ((len5 : Int) ≤ (n : Int)) = false := by simp; omega
              obtain ⟨z, b2, o2, rfl, hb2, hc2⟩ := HD.out.2.2 n hdl
              have f2 := ((HK2.out.k.blw.trans (HP2.out.blw.mono HK2.out.k.blw.size)).cell (p := ⟨b2, _, none⟩) hb2).trans hc2
              clear hc2
              cases z
              · have hol := HI.out.len hr9 hs9
                go_upto_region 13 with fail
                clear HI
                have hown := (HP2.out.alloc (prObj (k : Int) (t : Int))).own
                have hnew := new_sees W3 (k : Int) (t : Int)
                go_wp2_with (at_builtin; refine wpList_append_any _ rfl (.tmp 126) (.tmp 130) 30 rfl _ 48 i0 (.agg #[.int .i64 0, .int .i64 0]) 2 16 Try.underlying30 hi0 hz0 hz1 hz2 rfl (by decide) _ _ _ rfl hown (W3.heap.size + 1) _ 1 1 _ rfl hnew rfl (prs_one _) ?c1 ?c2 ?c3 ?_)
                case c1 => have := hol; unfold maxLen; omega
                case c2 => have := hol; omega
                case c3 => have := HP2.out.blw.size; simp; omega
                intro v3 W4 ho2 hg2 hb2
                have HP4 := Lib.hid (HP2.out.push (k : Int) (t : Int) (by first | rfl | simp) ho2 hg2)
                clear ho2 hg2 hb2 hown hnew
                go_wp2
                go_roundg (T - (t + 1))
                case measure => omega
                case rel => exact ⟨t + 1, n + 1, _, by omega, by omega, by go_num, by go_num, HPU.out, HP4.out⟩
              · have HI2 := Lib.hid HI.out.skip
                clear HI
                go_wp2
                go_roundg (T - (t + 1))
                case measure => omega
                case rel => exact ⟨t + 1, n + 1, o, by omega, by omega, by go_num, by go_num, HI2.out, HP2.out⟩
            · have hdz : ¬ (n : Int) < (len5 : Int) := by omega
              have hdw : (len5 : Int) ≤ (n : Int) := by omega
              have hdd : decide ((len5 : Int) ≤ (n : Int)) = true := by simp; omega
              have hol := HI.out.len hr9 hs9
              go_upto_region 13 with fail
              clear HI
              have hown := (HP2.out.alloc (prObj (k : Int) (t : Int))).own
              have hnew := new_sees W3 (k : Int) (t : Int)
              go_wp2_with (at_builtin; refine wpList_append_any _ rfl (.tmp 126) (.tmp 130) 30 rfl _ 48 i0 (.agg #[.int .i64 0, .int .i64 0]) 2 16 Try.underlying30 hi0 hz0 hz1 hz2 rfl (by decide) _ _ _ rfl hown (W3.heap.size + 1) _ 1 1 _ rfl hnew rfl (prs_one _) ?c1 ?c2 ?c3 ?_)
              case c1 => have := hol; unfold maxLen; omega
              case c2 => have := hol; omega
              case c3 => have := HP2.out.blw.size; simp; omega
              intro v3 W4 ho2 hg2 hb2
              have HP4 := Lib.hid (HP2.out.push (k : Int) (t : Int) (by first | rfl | simp) ho2 hg2)
              clear ho2 hg2 hb2 hown hnew
              go_wp2
              go_roundg (T - (t + 1))
              case measure => omega
              case rel => exact ⟨t + 1, n + 1, _, by omega, by omega, by go_num, by go_num, HPU.out, HP4.out⟩
          · have e1 : (rv == xv) = false := by simp [hxy]
            clear hxy HRD HLO
            go_quiet (fail)
            have HP2 := Lib.hid (HP.out.grew ((Grew.refl wr).drewN nq))
            have HI2 := Lib.hid HI.out.skip
            generalize wr.drewN nq = W3 at *
            clear HP HI d1
            go_wp2
            go_roundg (T - (t + 1))
            case measure => omega
            case rel => exact ⟨t + 1, n, o, by omega, by omega, by go_num, rfl, HI2.out, HP2.out⟩
  · have htr : ¬ (t : Int) < 2 * (len3 : Int) := by omega
    have hts : ¬ (t : Int) < 2 * (len4 : Int) := by omega
    have HIR := Lib.hid HI.out.row
    go_wp2
    go_roundg (20 - (k + 1))
    case measure => omega
    case rel => exact ⟨k + 1, n, o, by omega, by omega, by go_num, rfl, HIR.out, HP.out⟩

end Go.Proofs.Ytabebkkicpcjcaa
