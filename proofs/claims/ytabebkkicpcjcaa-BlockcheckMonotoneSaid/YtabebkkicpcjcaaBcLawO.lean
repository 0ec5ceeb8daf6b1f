/-
  The walk of the statement on larger invariants.
-/
import Derived.Test.YtabebkkicpcjcaaPk7
namespace Go.Proofs.Ytabebkkicpcjcaa
open Go.RowKit
set_option linter.unusedVariables false

set_option maxRecDepth 100000 in
set_option maxHeartbeats 16000000 in
theorem BlockcheckMonotone_walk (a0 a1 : Array Value) (a2 : Option Addr) (len2 cap2 : Nat) (a3 : Option Addr) (len3 cap3 : Nat) (a4 a5 : Int) (w : World) (w0 : IsBlk w a0) (w1 : IsMBlk w a1) (w2 : IsPrs w a2 len2 cap2) (w3 : IsPrs w a3 len3 cap3) (w4 : (Lit.int .i64 a4).wf = true) (w5 : (Lit.int .i64 a5).wf = true) :
    Calls Try.prog 5 #[.agg a0, .agg a1, .slice a2 len2 cap2, .slice a3 len3 cap3, .int .i64 a4, .int .i64 a5] w fun e w' => e = .returned (.bool true) ∧ Below w.heap.size w w' := by
  obtain ⟨l, rfl, _, hs, hlc, hcm⟩ := w2
  obtain ⟨m, rfl, _, ks, klc, kcm⟩ := w3
  obtain ⟨i0, hi0, hz0, hz1, hz2⟩ := info_pr
  obtain ⟨y1, A1, c1, rfl, hc1, hm1, hi1, hy1⟩ := w0
  obtain ⟨y2, A2, c2, rfl, hc2, hm2, hi2, hy2⟩ := w1
  obtain ⟨code, bt⟩ := y1
  obtain ⟨mach, mt⟩ := y2
  dsimp only at *
  obtain ⟨n1, hn1⟩ : ∃ n, code.length = n := ⟨_, rfl⟩
  obtain ⟨n2, hn2⟩ : ∃ n, mach.length = n := ⟨_, rfl⟩
  rw [hn1] at hc1 ⊢
  rw [hn2] at hc2 ⊢
  have AW := Lib.hid fun W => awake_any W
  have HK0 := Lib.hid (BK.start (bt := bt) (mt := mt) ⟨hn1, hc1, hm1, hi1⟩ ⟨hn2, hc2, hm2, hi2⟩)
  have HY1 := Lib.hid hy1
  have HY2 := Lib.hid hy2
  have HN1 := Lib.hid hn1
  have HN2 := Lib.hid hn2
  clear hc1 hm1 hi1 hy1 hc2 hm2 hi2 hy2 hn1 hn2
  clear w4 w5
  by_cases h40 : 40 < l.length
  · have hz : (40 : Int) < (l.length : Int) := by omega
    clear hs hlc hcm ks klc kcm h40
    go_enter Try.func5, Try.ntmps5
    go_upto_region 1 with fail
    generalize ((w.alloc (.cells #[.slice A1 n1 c1, .int .i64 bt.kind, .int .i64 bt.a, .int .i64 bt.to, .int .i64 bt.el] 26)).alloc (.cells #[.slice A2 n2 c2, .int .i64 mt.kind, .int .i64 mt.a, .int .i64 mt.to, .int .i64 mt.el] 29)) = W0 at *
    go_wp2_with fail
    refine (AW.out _).mono ?_
    rintro e W1 ⟨rfl, hb⟩
    have HK1 := Lib.hid (HK0.out.next hb)
    clear hb HK0
    go_wp2_with fail
    refine (AW.out _).mono ?_
    rintro e W9 ⟨rfl, hb⟩
    have HZ := Lib.hid (HK1.out.next hb).blw
    clear hb
    go_wp2
    go_ret
    exact ⟨rfl, HZ.out⟩
  · have hz : ¬ (40 : Int) < (l.length : Int) := by omega
    by_cases k40 : 40 < m.length
    · have kz : (40 : Int) < (m.length : Int) := by omega
      clear hs hlc hcm ks klc kcm k40
      go_enter Try.func5, Try.ntmps5
      go_upto_region 1 with fail
      generalize ((w.alloc (.cells #[.slice A1 n1 c1, .int .i64 bt.kind, .int .i64 bt.a, .int .i64 bt.to, .int .i64 bt.el] 26)).alloc (.cells #[.slice A2 n2 c2, .int .i64 mt.kind, .int .i64 mt.a, .int .i64 mt.to, .int .i64 mt.el] 29)) = W0 at *
      go_wp2_with fail
      refine (AW.out _).mono ?_
      rintro e W1 ⟨rfl, hb⟩
      have HK1 := Lib.hid (HK0.out.next hb)
      clear hb HK0
      go_wp2_with fail
      refine (AW.out _).mono ?_
      rintro e W9 ⟨rfl, hb⟩
      have HZ := Lib.hid (HK1.out.next hb).blw
      clear hb
      go_wp2
      go_ret
      exact ⟨rfl, HZ.out⟩
    · have kz : ¬ (40 : Int) < (m.length : Int) := by omega
      have hl : l.length ≤ 40 := by omega
      have hm : m.length ≤ 40 := by omega
      have HL0 := Lib.hid ((LS.in rfl hs hlc hcm (by omega)).below HK0.out.blw)
      have HM0 := Lib.hid ((LS.in rfl ks klc kcm (by omega)).below HK0.out.blw)
      have hx : (mkP l).length ≤ 40 := Nat.le_trans (mkP_len _) (by omega)
      have hy : (mkP (l ++ m)).length ≤ 80 := Nat.le_trans (mkP_len _) (by simp; omega)
      have HSX := Lib.hid (mkP_srt l)
      have HSY := Lib.hid (mkP_srt (l ++ m))
      have HXY : Hid (∀ q ∈ mkP l, q ∈ mkP (l ++ m)) := fun q hq => mem_mkP.2 (List.mem_append.2 (.inl (mem_mkP.1 hq)))
      clear hs hlc hcm h40 ks klc kcm k40
      go_enter Try.func5, Try.ntmps5
      go_upto_region 1 with fail
      generalize ((w.alloc (.cells #[.slice A1 n1 c1, .int .i64 bt.kind, .int .i64 bt.a, .int .i64 bt.to, .int .i64 bt.el] 26)).alloc (.cells #[.slice A2 n2 c2, .int .i64 mt.kind, .int .i64 mt.a, .int .i64 mt.to, .int .i64 mt.el] 29)) = W0 at *
      go_wp2_with fail
      refine (AW.out _).mono ?_
      rintro e W1 ⟨rfl, hb⟩
      have HK1 := Lib.hid (HK0.out.next hb)
      have HL1 := Lib.hid (HL0.out.below hb)
      have HM1 := Lib.hid (HM0.out.below hb)
      clear hb HK0 HL0 HM0
      have b0 := HK1.out.b.cell 0; have b1 := HK1.out.b.cell 1; have b2 := HK1.out.b.cell 2; have b3 := HK1.out.b.cell 3; have b4 := HK1.out.b.cell 4
      have m0 := HK1.out.m.cell 0; have m1 := HK1.out.m.cell 1; have m2 := HK1.out.m.cell 2; have m3 := HK1.out.m.cell 3; have m4 := HK1.out.m.cell 4
      simp only [List.getElem?_toArray, List.getElem?_cons_zero, List.getElem?_cons_succ] at b0 b1 b2 b3 b4 m0 m1 m2 m3 m4
      go_wp2_with fail
      refine (right_any HK1.out.cs HK1.out.ms).mono ?_
      rintro e W2 ⟨b, rfl, hb, hR⟩
      have HK2 := Lib.hid (HK1.out.next hb)
      have HL2 := Lib.hid (HL1.out.below hb)
      have HM2 := Lib.hid (HM1.out.below hb)
      clear hb HK1 HL1 HM1 b0 b1 b2 b3 b4 m0 m1 m2 m3 m4
      cases b
      · clear hR
        go_wp2_with fail
        refine (AW.out _).mono ?_
        rintro e W9 ⟨rfl, hb⟩
        have HZ := Lib.hid (HK2.out.next hb).blw
        clear hb
        go_wp2
        go_ret
        exact ⟨rfl, HZ.out⟩
      · have HR := Lib.hid (hR rfl)
        clear hR AW
        have C := Lib.hid (rmake_ls HL2.out)
        go_wp2_with fail
        refine C.out.mono ?_
        rintro e W3 ⟨A, n, c, rfl, hP, hL⟩
        have HK3 := Lib.hid (HK2.out.next hP.blw)
        have HX3 := Lib.hid hL
        have HL3 := Lib.hid (HL2.out.below hP.blw)
        have HM3 := Lib.hid (HM2.out.below hP.blw)
        have hn : n ≤ 40 := by have := hL.len; omega
        clear hP hL C HK2 HL2 HM2
        go_upto_region 4 with fail
        have hs9 := (HL3.out.see).alloc (Nat.le_refl _) (.cells #[] 48)
        go_wp2_with (at_builtin; refine wpList_append_any _ rfl (.tmp 42) (.tmp 43) 30 rfl W3.heap.size 48 i0 (.agg #[.int .i64 0, .int .i64 0]) 2 16 Try.underlying30 hi0 hz0 hz1 hz2 rfl (by decide) _ _ _ rfl (own_empty W3 48 2) W3.heap.size _ _ _ (prs l) rfl hs9 (prs_length _) (prs_one _) ?c1 ?c2 ?c3 ?_)
        case c1 => unfold maxLen; omega
        case c2 => omega
        case c3 => simp
        intro v4 W4 ho1 hg1 _
        have HP4 : Hid (PL W3 v4 l W4) := PL.clone (by omega) ho1 hg1
        clear ho1 hg1 hs9
        have hs9 := (HM3.out.below HP4.out.blw).see
        have hown := HP4.out.own
        go_wp2_with (at_builtin; refine wpList_append_any _ rfl (.tmp 44) (.tmp 45) 30 rfl W3.heap.size 48 i0 (.agg #[.int .i64 0, .int .i64 0]) 2 16 Try.underlying30 hi0 hz0 hz1 hz2 rfl (by decide) _ _ _ rfl hown W4.heap.size _ _ _ (prs m) rfl hs9 (prs_length _) (prs_one _) ?c1 ?c2 ?c3 ?_)
        case c1 => unfold maxLen; omega
        case c2 => omega
        case c3 => exact HP4.out.blw.size
        intro v5 W5 ho1 hg1 _
        have HP5 : Hid (PL W3 v5 (l ++ m) W5) := HP4.out.join (by omega) (by omega) ho1 hg1
        clear ho1 hg1 hs9 hown HP4 HL3 HM3 hi0 hz0 hz1 hz2
        obtain ⟨A5, c5, rfl, _, _⟩ := HP5.out.slice
        have HL5 := Lib.hid (HP5.out.ls (by simp; omega))
        have HX5 := Lib.hid (HX3.out.below HP5.out.blw)
        have HK5 := Lib.hid (HK3.out.next HP5.out.blw)
        clear HX3 HK3 HP5
        generalize (l ++ m).length = q at HL5 ⊢
        have C := Lib.hid (rmake_ls HL5.out)
        go_wp2_with fail
        refine C.out.mono ?_
        rintro e W6 ⟨A6, n6, c6, rfl, hP, hL⟩
        have HK6 := Lib.hid (HK5.out.next hP.blw)
        have HX6 := Lib.hid (HX5.out.below hP.blw)
        have HY6 := Lib.hid hL
        have hn6 : n6 ≤ 80 := by have := hL.len; omega
        have hb1 := HR.out.n1
        have hb2 := HR.out.n2
        obtain ⟨nR, nS, _, _, hQ⟩ := HR.out.ok HY1.out.1 HY1.out.2 HY2.out.1 HY2.out.2
        have HMO := Lib.hid (checkE_mono (ok := tmP bt mt) (bt := bt) (mt := mt) (code := code) (mach := mach) (most := 1000000) HSX.out HSY.out HXY.out (by
          have := Nat.mul_le_mul (show (mkP (l ++ m)).length + code.length ≤ 140 by omega) (show (mkP (l ++ m)).length + 2 * mach.length ≤ 480 by omega)
          omega) (by omega))
        have HS1 := Lib.hid (small_of (most := 1000000) (ok := tmP bt mt) HSX.out (by omega) hQ)
        have HS2 := Lib.hid (small_of (most := 1000000) (ok := tmP bt mt) HSY.out (by omega) hQ)
        clear hP hL C HX5 HK5 HL5 hx hy HR HXY
        generalize mkP l = x at *
        generalize mkP (l ++ m) = y at *
        have C := Lib.hid (check_bk (most := 1000000) HK6.out HX6.out HSX.out (by omega) hb1 hb2 hQ)
        have C2 : Hid (∀ V, Below W6.heap.size W6 V → _) := fun V h => check_bk (most := 1000000) (HK6.out.next h) (HY6.out.below h) HSY.out (by omega) hb1 hb2 hQ
        obtain ⟨r, hr⟩ : ∃ z, checkE code mach bt mt (tmP bt mt) x 1000000 = z := ⟨_, rfl⟩
        obtain ⟨s, hs⟩ : ∃ z, checkE code mach bt mt (tmP bt mt) y 1000000 = z := ⟨_, rfl⟩
        rw [hr] at C HMO HS1
        rw [hs] at C2 HMO HS2
        have hrl := HS1.out.2.1
        have hsl := HS2.out.2.1
        clear hr hs HS1 HS2 HSX HSY HY1 HY2 hQ
        have b0 := HK6.out.b.cell 0; have b1 := HK6.out.b.cell 1; have b2 := HK6.out.b.cell 2; have b3 := HK6.out.b.cell 3; have b4 := HK6.out.b.cell 4
        have m0 := HK6.out.m.cell 0; have m1 := HK6.out.m.cell 1; have m2 := HK6.out.m.cell 2; have m3 := HK6.out.m.cell 3; have m4 := HK6.out.m.cell 4
        simp only [List.getElem?_toArray, List.getElem?_cons_zero, List.getElem?_cons_succ] at b0 b1 b2 b3 b4 m0 m1 m2 m3 m4
        go_wp2_with fail
        refine C.out.mono ?_
        rintro e W7 ⟨A7, c7, rfl, hP⟩
        have HQ7 : Hid (Sees (W7.alloc (.cells #[.slice A7 (r).out.length c7, .int .i64 (r).err, .int .i64 ((r).at_ : Int), .int .i64 ((r).steps : Int), .int .i64 ((r).largest : Int)] 40)) (W7.alloc (.cells #[.slice A7 (r).out.length c7, .int .i64 (r).err, .int .i64 ((r).at_ : Int), .int .i64 ((r).steps : Int), .int .i64 ((r).largest : Int)] 40)).heap.size A7 (prs r.out)) := (hP.alloc _).sees
        have hb7 := hP.blw.alloc hP.blw.size (.cells #[.slice A7 (r).out.length c7, .int .i64 (r).err, .int .i64 ((r).at_ : Int), .int .i64 ((r).steps : Int), .int .i64 ((r).largest : Int)] 40)
        have HK7 := Lib.hid (HK6.out.next hb7)
        have HB7 := Lib.hid hb7
        clear hP C HK6 b0 b1 b2 b3 b4 m0 m1 m2 m3 m4 hb7
        go_upto_region 6 with fail
        have HRW := Lib.hid (Row.new W7 40 #[.slice A7 (r).out.length c7, .int .i64 (r).err, .int .i64 ((r).at_ : Int), .int .i64 ((r).steps : Int), .int .i64 ((r).largest : Int)])
        generalize W7.alloc (.cells #[.slice A7 (r).out.length c7, .int .i64 (r).err, .int .i64 ((r).at_ : Int), .int .i64 ((r).steps : Int), .int .i64 ((r).largest : Int)] 40) = W8 at *
        generalize W7.heap.size = rb at *
        have b0 := HK7.out.b.cell 0; have b1 := HK7.out.b.cell 1; have b2 := HK7.out.b.cell 2; have b3 := HK7.out.b.cell 3; have b4 := HK7.out.b.cell 4
        have m0 := HK7.out.m.cell 0; have m1 := HK7.out.m.cell 1; have m2 := HK7.out.m.cell 2; have m3 := HK7.out.m.cell 3; have m4 := HK7.out.m.cell 4
        simp only [List.getElem?_toArray, List.getElem?_cons_zero, List.getElem?_cons_succ] at b0 b1 b2 b3 b4 m0 m1 m2 m3 m4
        have C := Lib.hid (C2.out W8 HB7.out)
        go_wp2_with fail
        refine C.out.mono ?_
        rintro e W9 ⟨A9, c9, rfl, hP⟩
        have hb9 := hP.blw.alloc hP.blw.size (.cells #[.slice A9 (s).out.length c9, .int .i64 (s).err, .int .i64 ((s).at_ : Int), .int .i64 ((s).steps : Int), .int .i64 ((s).largest : Int)] 40)
        have HQ9 : Hid (Sees (W9.alloc (.cells #[.slice A9 (s).out.length c9, .int .i64 (s).err, .int .i64 ((s).at_ : Int), .int .i64 ((s).steps : Int), .int .i64 ((s).largest : Int)] 40)) (W9.alloc (.cells #[.slice A9 (s).out.length c9, .int .i64 (s).err, .int .i64 ((s).at_ : Int), .int .i64 ((s).steps : Int), .int .i64 ((s).largest : Int)] 40)).heap.size A9 (prs s.out)) := (hP.alloc _).sees
        have HQ8 := Lib.hid ((HQ7.out.below hb9).more hb9.size)
        have HK9 := Lib.hid (HK7.out.next hb9).blw
        have HRX := Lib.hid (HRW.out.below hb9 HRW.out.lt)
        have HSW := Lib.hid (Row.new W9 40 #[.slice A9 (s).out.length c9, .int .i64 (s).err, .int .i64 ((s).at_ : Int), .int .i64 ((s).steps : Int), .int .i64 ((s).largest : Int)])
        clear hP C C2 HK7 b0 b1 b2 b3 b4 m0 m1 m2 m3 m4 hb9 HQ7 HRW HB7 HX6 HY6
        go_upto_region 7 with fail
        generalize W9.alloc (.cells #[.slice A9 (s).out.length c9, .int .i64 (s).err, .int .i64 ((s).at_ : Int), .int .i64 ((s).steps : Int), .int .i64 ((s).largest : Int)] 40) = W10 at *
        generalize W9.heap.size = sb at *
        have r0 := HRX.out.cell 0; have r1 := HRX.out.cell 1; have r3 := HRX.out.cell 3; have r4 := HRX.out.cell 4
        have s0 := HSW.out.cell 0; have s1 := HSW.out.cell 1; have s3 := HSW.out.cell 3; have s4 := HSW.out.cell 4
        simp only [List.getElem?_toArray, List.getElem?_cons_zero, List.getElem?_cons_succ] at r0 r1 r3 r4 s0 s1 s3 s4
        by_cases her : r.err = 0
        · have hm9 := HMO.out.2 her
          have hea : (r.err != 0) = false := by simp [her]
          have hes : (s.err == 0) = true := by simp [hm9.1]
          have hla : (r.largest : Int) ≤ (s.largest : Int) := by have := hm9.2.2.2.2.1; omega
          have hst : (r.steps : Int) ≤ (s.steps : Int) := by have := hm9.2.2.2.2.2; omega
          have D := Lib.hid (rmissing_any W10.heap.size A7 A9 r.out s.out c7 c9 W10 HQ8.out HQ9.out (Nat.le_refl _) (by omega) (by omega))
          rw [misP_none.2 hm9.2.1] at D
          clear hm9 HMO her HQ8 HQ9
          go_wp2_with fail
          refine D.out.mono ?_
          rintro e W11 ⟨rfl, hb⟩
          have hbz := hb.alloc hb.size (.cells #[.int .i64 0, .int .i64 0] 48)
          have HRY := Lib.hid (HRX.out.below hbz HRX.out.lt)
          have HSY := Lib.hid (HSW.out.below hbz HSW.out.lt)
          have HZ := Lib.hid (HK9.out.trans (hbz.mono HK9.out.size))
          clear hb hbz D HRX HSW HK9 r0 r1 r3 r4 s0 s1 s3 s4
          unfold mres
          go_upto_region 10 with fail
          generalize W11.alloc (.cells #[.int .i64 0, .int .i64 0] 48) = W12 at *
          have r3 := HRY.out.cell 3; have r4 := HRY.out.cell 4
          have s1 := HSY.out.cell 1; have s3 := HSY.out.cell 3; have s4 := HSY.out.cell 4
          simp only [List.getElem?_toArray, List.getElem?_cons_zero, List.getElem?_cons_succ] at r3 r4 s1 s3 s4
          go_wp2
          go_ret
          exact ⟨rfl, HZ.out⟩
        · have hm9 := HMO.out.1 her
          have hea : (r.err != 0) = true := by simp [her]
          by_cases heq : r.err = s.err
          · have heb : (r.err == s.err) = true := by simp [heq]
            clear hm9 HMO her heq HQ8 HQ9
            go_wp2
            go_ret
            exact ⟨rfl, HK9.out⟩
          · have heb : (r.err == s.err) = false := by simp [heq]
            have hec : (r.err == 21) = true := by
              rcases hm9 with h | h
              · exact absurd h heq
              · simp [h]
            clear hm9 HMO her heq HQ8 HQ9
            go_wp2
            go_ret
            exact ⟨rfl, HK9.out⟩

end Go.Proofs.Ytabebkkicpcjcaa
