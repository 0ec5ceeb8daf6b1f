/-
  The walk of the statement on soundness, three pieces left open.
-/
import Derived.Test.YtabebkkicpcjcaaPk7
import Derived.Test.YtabebkkicpcjcaaBcSet
import Derived.Test.YtabebkkicpcjcaaIL
import Derived.Test.YtabebkkicpcjcaaBcSnd
namespace Go.Proofs.Ytabebkkicpcjcaa
open Go.RowKit
set_option linter.unusedVariables false

/-- What the walk carries: the blocks and the three lists of values. -/
structure BSV (w : World) (bt mt : Tm) (A1 : Option Addr) (n1 c1 : Nat) (code : List In) (A2 : Option Addr) (n2 c2 : Nat) (mach : List Mi) (Av : Option Addr) (cv : Nat) (x : List Int) (Ar : Option Addr) (nr cr : Nat) (yr : List Int) (As : Option Addr) (ns cs : Nat) (ys : List Int) (W : World) : Prop where
  k : BK w bt mt A1 n1 c1 code A2 n2 c2 mach W
  x : IS W Av 20 cv x
  r : IS W Ar nr cr yr
  s : IS W As ns cs ys
theorem BSV.next {w : World} {bt mt : Tm} {A1 : Option Addr} {n1 c1 : Nat} {code : List In} {A2 : Option Addr} {n2 c2 : Nat} {mach : List Mi} {Av : Option Addr} {cv : Nat} {x : List Int} {Ar : Option Addr} {nr cr : Nat} {yr : List Int} {As : Option Addr} {ns cs : Nat} {ys : List Int} {W W' : World}
    (h : BSV w bt mt A1 n1 c1 code A2 n2 c2 mach Av cv x Ar nr cr yr As ns cs ys W) (hb : Below W.heap.size W W') : BSV w bt mt A1 n1 c1 code A2 n2 c2 mach Av cv x Ar nr cr yr As ns cs ys W' := ⟨h.k.next hb, h.x.below hb, h.r.below hb, h.s.below hb⟩

/-- The walk, three pieces left open. -/
structure SkS where
  P : Prop
  Q : Prop
  R : Prop
  out : P → Q → R → ∀ (a0 a1 : Array Value) (a2 : Option Addr) (len2 cap2 : Nat) (z2 : List Int) (a3 : Option Addr) (len3 cap3 : Nat) (z3 : List Int) (a4 : Option Addr) (len4 cap4 : Nat) (z4 : List Int) (a5 : Option Addr) (len5 cap5 : Nat) (w : World) (w0 : IsBlk w a0) (w1 : IsMBlk w a1) (w2 : IsRow .i64 w a2 len2 cap2 z2) (w3 : IsRow .i64 w a3 len3 cap3 z3) (w4 : IsRow .i64 w a4 len4 cap4 z4) (w5 : IsBools w a5 len5 cap5),
    Calls Try.prog 4 #[.agg a0, .agg a1, .slice a2 len2 cap2, .slice a3 len3 cap3, .slice a4 len4 cap4, .slice a5 len5 cap5] w fun e w' => e = .returned (.bool true) ∧ Below w.heap.size w w'

set_option maxRecDepth 100000 in
set_option maxHeartbeats 64000000 in
/-- The walk of the statement on soundness but for three pieces. -/
def soundSk : SkS := by
  apply SkS.mk
  intro cutA cutB cutC
  have CUTA := Lib.hid cutA
  have CUTB := Lib.hid cutB
  have CUTC := Lib.hid cutC
  clear cutA cutB cutC
  intro a0 a1 a2 len2 cap2 z2 a3 len3 cap3 z3 a4 len4 cap4 z4 a5 len5 cap5 w w0 w1 w2 w3 w4 w5
  obtain ⟨x, hxw, h2⟩ := w2.is
  obtain ⟨yr, hrw, h3⟩ := w3.is
  obtain ⟨ys, hsw, h4⟩ := w4.is
  obtain ⟨i0, hi0, hz0, hz1, hz2⟩ := info_pr
  obtain ⟨y1, A1, c1, rfl, hc1, hm1, hi1, hy1⟩ := w0
  obtain ⟨y2, A2, c2, rfl, hc2, hm2, hi2, hy2⟩ := w1
  obtain ⟨code, bt⟩ := y1
  obtain ⟨mach, mt⟩ := y2
  dsimp only at *
  obtain ⟨n1, hn1⟩ : ∃ n, code.length = n := ⟨_, rfl⟩
  obtain ⟨n2, hn2⟩ : ∃ n, mach.length = n := ⟨_, rfl⟩
  rw [hn1] at hc1 ⊢
  rw [hn2] at hc2 ⊢
  have AW := Lib.hid fun W => awake_any W
  have HK0 := Lib.hid (BK.start (bt := bt) (mt := mt) ⟨hn1, hc1, hm1, hi1⟩ ⟨hn2, hc2, hm2, hi2⟩)
  have HY1 := Lib.hid hy1
  have HY2 := Lib.hid hy2
  have HN1 := Lib.hid hn1
  have HN2 := Lib.hid hn2
  clear hc1 hm1 hi1 hy1 hc2 hm2 hi2 hy2 hn1 hn2
  by_cases q2 : len2 = 20
  · subst q2
    have e2 : (((20 : Nat) : Int) != 20) = false := by decide
    by_cases q3 : len3 = 0
    · have e3 : ((len3 : Int) == 0) = true := by simp [q3]
      clear w2 w3 w4 w5 hxw h2 hrw h3 hsw h4 q3
      go_enter Try.func4, Try.ntmps4
      go_upto_region 1 with fail
      generalize ((w.alloc (.cells #[.slice A1 n1 c1, .int .i64 bt.kind, .int .i64 bt.a, .int .i64 bt.to, .int .i64 bt.el] 26)).alloc (.cells #[.slice A2 n2 c2, .int .i64 mt.kind, .int .i64 mt.a, .int .i64 mt.to, .int .i64 mt.el] 29)) = W0 at *
      go_wp2_with fail
      refine (AW.out _).mono ?_
      rintro e W1 ⟨rfl, hb⟩
      have HK1 := Lib.hid (HK0.out.next hb)
      clear hb HK0
      go_wp2_with fail
      refine (AW.out _).mono ?_
      rintro e W9 ⟨rfl, hb⟩
      have HZ := Lib.hid (HK1.out.next hb).blw
      clear hb
      go_wp2
      go_ret
      exact ⟨rfl, HZ.out⟩
    · have e3 : ((len3 : Int) == 0) = false := by simp [q3]
      have HXW := Lib.hid hxw
      have HRW := Lib.hid hrw
      have HSW := Lib.hid hsw
      have HD := Lib.hid w5
      have HK := Lib.hid (BSV.mk HK0.out (h2.below HK0.out.blw) (h3.below HK0.out.blw) (h4.below HK0.out.blw))
      clear w2 w3 w4 w5 hxw h2 hrw h3 hsw h4 HK0
      go_enter Try.func4, Try.ntmps4
      go_upto_region 1 with fail
      generalize ((w.alloc (.cells #[.slice A1 n1 c1, .int .i64 bt.kind, .int .i64 bt.a, .int .i64 bt.to, .int .i64 bt.el] 26)).alloc (.cells #[.slice A2 n2 c2, .int .i64 mt.kind, .int .i64 mt.a, .int .i64 mt.to, .int .i64 mt.el] 29)) = W0 at *
      go_wp2_with fail
      refine (AW.out _).mono ?_
      rintro e W1 ⟨rfl, hb⟩
      have HK1 := Lib.hid (HK.out.next hb)
      clear hb HK
      have HKB := Lib.hid HK1.out.k
      have b0 := HKB.out.b.cell 0; have b1 := HKB.out.b.cell 1; have b2 := HKB.out.b.cell 2; have b3 := HKB.out.b.cell 3; have b4 := HKB.out.b.cell 4
      have m0 := HKB.out.m.cell 0; have m1 := HKB.out.m.cell 1; have m2 := HKB.out.m.cell 2; have m3 := HKB.out.m.cell 3; have m4 := HKB.out.m.cell 4
      simp only [List.getElem?_toArray, List.getElem?_cons_zero, List.getElem?_cons_succ] at b0 b1 b2 b3 b4 m0 m1 m2 m3 m4
      go_wp2_with fail
      refine (right_any HKB.out.cs HKB.out.ms).mono ?_
      rintro e W2 ⟨b, rfl, hb, hR⟩
      have HK2 := Lib.hid (HK1.out.next hb)
      clear hb HK1 HKB b0 b1 b2 b3 b4 m0 m1 m2 m3 m4
      cases b
      · clear hR
        have HK3 := Lib.hid HK2.out.k
        go_wp2_with fail
        refine (AW.out _).mono ?_
        rintro e W9 ⟨rfl, hb⟩
        have HZ := Lib.hid (HK3.out.next hb).blw
        clear hb
        go_wp2
        go_ret
        exact ⟨rfl, HZ.out⟩
      · have HR := Lib.hid (hR rfl)
        clear hR AW
        obtain ⟨nR, nS, hnr, hns, hQ⟩ := HR.out.ok HY1.out.1 HY1.out.2 HY2.out.1 HY2.out.2
        obtain rfl : len3 = nR := by omega
        obtain rfl : len4 = nS := by omega
        have hr9 := hQ.r
        have hs9 := hQ.s
        have HQ := Lib.hid hQ
        have HB1 := Lib.hid HR.out.n1
        have HB2 := Lib.hid HR.out.n2
        clear hnr hns hQ HR HY1 HY2
        go_wp2
        go_loopg [13, 14, 15] 20 (fun g u13 u14 u15 wr => ∃ (k n : Nat) (o : List Pr), k + g = 20 ∧ n ≤ 100 * k ∧ u15 = .int .i64 k ∧ u14 = .int .i64 n ∧ Hid (BInv len3 len4 x yr ys k 0 o) ∧ Hid (PL W2 u13 o wr))
        case atStart => exact ⟨0, 0, [], by omega, by omega, by go_num, by go_num, BInv.nil, PL.nil W2⟩
        case round =>
          obtain ⟨k, n, o, hg, hn, rfl, rfl, HI, HP⟩ := hrel
          by_cases hk : k < 20
          · have hkz : (k : Int) < 20 := by omega
            obtain ⟨bx, ox, rfl, hbx, hcx⟩ := HK2.out.x.at hk
            obtain ⟨xv, hxv⟩ : ∃ z, z = x.getD k 0 := ⟨_, rfl⟩
            rw [← hxv] at hcx
            have HXV := Lib.hid hxv
            clear hxv
            obtain ⟨Wo, hwo⟩ : ∃ z, z = wr := ⟨_, rfl⟩
            subst hwo
            have HN := Lib.hid hn
            go_wp2
            obtain ⟨T, hT, hT1, hT2, hT3⟩ : ∃ T : Nat, T ≤ 40 ∧ 2 * len3 ≤ T ∧ 2 * len4 ≤ T ∧ (T = 2 * len3 ∨ T = 2 * len4) := ⟨max (2 * len3) (2 * len4), by omega, by omega, by omega, by omega⟩
            go_loopg [13, 14, 16] T (fun g u13 u14 u16 wr => ∃ (t n : Nat) (o : List Pr), t + g = T ∧ n ≤ 100 * k + t ∧ u16 = .int .i64 t ∧ u14 = .int .i64 n ∧ Hid (BInv len3 len4 x yr ys k t o) ∧ Hid (PL W2 u13 o wr))
            case atStart => exact ⟨0, n, o, by omega, by omega, by go_num, by go_num, HI.out, HP.out⟩
            case round =>
              clear HI HP
              obtain ⟨t, n, o, hgt, hn, rfl, rfl, HI, HP⟩ := hrel
              rename_i i1 i2 i3 i4 i5 i6 i7 i8 i9 i10 i11 i12 i13 i14 i15 i16 i17 i18 i19 i20 i21 i22 i23 i24 i25 i26 i27 i28 i29 i30 i31 i32 i33 i34 i35 i36 i37 i38 i39 i40 i41 i42 i43 i44 i45 i46 i47 i48 i49 i50 i51 i52 i53 i54 i55 i56 i57 i58 i59 i60 i61 i62 i63 i64 i65 i66 i67 i68 i69 i70 i71 i72 i73 i74 i75 i76 i77 i78 i79 i80 i81 i82 i83 i84 i85 i86 i87 i88 i89 i90 i91 i92 i93 i94 i95 i96 i97
              revert cap2 z2 a3 len3 cap3 z3 a4 len4 cap4 z4 a5 len5 cap5 w x yr ys i0 hi0 hz0 hz1 hz2 A1 c1 A2 c2 code bt mach mt n1 n2 HN1 HN2 e2 q3 e3 HXW HRW HSW HD i1 W0 W1 W2 hr9 hs9 HQ HB1 HB2 i2 i3 i4 i5 u16 u51 u52 u53 u54 i6 i7 i8 i9 i10 i11 i12 i13 i14 i15 i16 i17 i18 i19 i20 i21 i22 i23 i24 i25 i26 i27 i28 i29 i30 i31 i32 i33 i34 i35 i36 i37 i38 i39 i40 i41 i42 i43 i44 i45 i46 i47 i48 i49 i50 i51 i52 i53 i54 i55 i56 i57 i58 i59 i60 i61 i62 i63 i64 i65 i66 i67 i68 i69 i70 i71 i72 i73 i74 i75 i76 i77 i78 i79 i80 i81 i82 i83 i84 i85 i86 i87 k i88 i89 hg i90 hk hkz bx ox HK2 i91 hbx xv hcx HXV Wo HN i92 i93 T hT hT1 hT2 hT3 gk wr u13 u55 u56 u57 u58 u59 u60 u61 u62 u63 u64 u65 u66 u67 u68 u69 u70 u71 u72 u73 u74 u75 u76 u77 u78 u79 u80 u81 u82 u83 u84 u85 u86 u87 u88 u89 u90 u91 u92 u93 u94 u95 u96 u97 u98 u99 u100 u101 u102 u103 u104 u105 u106 u107 u108 u109 u110 u111 u112 u113 u114 u115 u116 u117 u118 u119 u120 u121 u122 u123 u124 u125 u126 u127 u128 u129 u130 u131 u132 u133 i94 i95 i96 i97 t n o hgt hn HI HP
              exact CUTA.out
          · have hkz : ¬ (k : Int) < 20 := by omega
            clear CUTA
            obtain rfl : k = 20 := by omega
            obtain ⟨Ao, co, rfl, _, _⟩ := HP.out.slice
            have hol := HI.out.len hr9 hs9
            have HK3 := Lib.hid (HK2.out.next HP.out.blw)
            obtain ⟨q, hq⟩ : ∃ z, z = tmP bt mt := ⟨_, rfl⟩
            have HTP := Lib.hid hq
            have C := Lib.hid (check_any (c := co) (most := 1000000) HK3.out.k.cs HK3.out.k.ms HP.out.sees HI.out.srt (HI.out.pin hr9 hs9) (by decide) (by have := HB1.out; have := HN1.out; omega) (by have := HB2.out; have := HN2.out; omega) (by omega) (fun rows hch => blk_in HQ.out.ins HQ.out.mis (regsR_in []) (locsL_in [] hr9 hs9) bt mt hch) HQ.out.mis (by omega) (HQ.out.tm.mono (by omega)))
            obtain ⟨RC, hRC⟩ : ∃ z, checkE code mach bt mt (tmP bt mt) o 1000000 = z := ⟨_, rfl⟩
            have HRC := Lib.hid hRC
            rw [hRC] at C
            generalize o.length = ol at *
            have HKB := Lib.hid HK3.out.k
            clear hq hRC HP HK2 hi0 hz0 hz1 hz2 hkz hn hg hk
            have b0 := HKB.out.b.cell 0; have b1 := HKB.out.b.cell 1; have b2 := HKB.out.b.cell 2; have b3 := HKB.out.b.cell 3; have b4 := HKB.out.b.cell 4
            have m0 := HKB.out.m.cell 0; have m1 := HKB.out.m.cell 1; have m2 := HKB.out.m.cell 2; have m3 := HKB.out.m.cell 3; have m4 := HKB.out.m.cell 4
            simp only [List.getElem?_toArray, List.getElem?_cons_zero, List.getElem?_cons_succ] at b0 b1 b2 b3 b4 m0 m1 m2 m3 m4
            go_wp2_with fail
            refine C.out.mono ?_
            rintro e W3 ⟨Ax, cx, rfl, hP⟩
            have HP3 := Lib.hid (hP.alloc (.cells #[.slice Ax (RC).out.length cx, .int .i64 (RC).err, .int .i64 ((RC).at_ : Int), .int .i64 ((RC).steps : Int), .int .i64 ((RC).largest : Int)] 40))
            have HK4 := Lib.hid (HK3.out.next (hP.alloc (.cells #[.slice Ax (RC).out.length cx, .int .i64 (RC).err, .int .i64 ((RC).at_ : Int), .int .i64 ((RC).steps : Int), .int .i64 ((RC).largest : Int)] 40)).blw)
            have HRW := Lib.hid (Row.new W3 40 #[.slice Ax (RC).out.length cx, .int .i64 (RC).err, .int .i64 ((RC).at_ : Int), .int .i64 ((RC).steps : Int), .int .i64 ((RC).largest : Int)])
            clear hP C HK3 HKB b0 b1 b2 b3 b4 m0 m1 m2 m3 m4
            go_upto_region 16 with fail
            generalize (W3.alloc (.cells #[.slice Ax (RC).out.length cx, .int .i64 (RC).err, .int .i64 ((RC).at_ : Int), .int .i64 ((RC).steps : Int), .int .i64 ((RC).largest : Int)] 40)) = W4 at *
            generalize W3.heap.size = rb at *
            have r1 := HRW.out.cell 1
            simp only [List.getElem?_toArray, List.getElem?_cons_zero, List.getElem?_cons_succ] at r1
            by_cases her : RC.err = 0
            · have her2 : (RC.err != 0) = false := by simp [her]
              have HER := Lib.hid her
              clear her
              go_upto_region 18 with fail
              clear r1 her2
              have hb5 := (((Below.refl W4.heap.size W4).alloc (Nat.le_refl _) (.cells #[.int .i64 3, .int .i64 0, .int .i64 0, .int .i64 0] 24)).alloc (by simp) (.cells #[.int .i64 0, .int .i64 20, .slice none 0 0] 51)).alloc (by simp; omega) (.cells #[.int .i64 0, .int .i64 (len3 : Int), .int .i64 (len4 : Int), .slice none 0 0] 54)
              have hR1 := ((Row.new W4 24 #[.int .i64 3, .int .i64 0, .int .i64 0, .int .i64 0]).alloc (.cells #[.int .i64 0, .int .i64 20, .slice none 0 0] 51)).alloc (.cells #[.int .i64 0, .int .i64 (len3 : Int), .int .i64 (len4 : Int), .slice none 0 0] 54)
              have hR2 := (Row.new (W4.alloc (.cells #[.int .i64 3, .int .i64 0, .int .i64 0, .int .i64 0] 24)) 51 #[.int .i64 0, .int .i64 20, .slice none 0 0]).alloc (.cells #[.int .i64 0, .int .i64 (len3 : Int), .int .i64 (len4 : Int), .slice none 0 0] 54)
              rw [show (W4.alloc (.cells #[.int .i64 3, .int .i64 0, .int .i64 0, .int .i64 0] 24)).heap.size = W4.heap.size + 1 by simp] at hR2
              have hR3 := Row.new ((W4.alloc (.cells #[.int .i64 3, .int .i64 0, .int .i64 0, .int .i64 0] 24)).alloc (.cells #[.int .i64 0, .int .i64 20, .slice none 0 0] 51)) 54 #[.int .i64 0, .int .i64 (len3 : Int), .int .i64 (len4 : Int), .slice none 0 0]
              rw [show ((W4.alloc (.cells #[.int .i64 3, .int .i64 0, .int .i64 0, .int .i64 0] 24)).alloc (.cells #[.int .i64 0, .int .i64 20, .slice none 0 0] 51)).heap.size = W4.heap.size + 1 + 1 by simp] at hR3
              have HF : Hid (BF W4 len3 len4 0 none 0 [] 0 none 0 [] (((W4.alloc (.cells #[.int .i64 3, .int .i64 0, .int .i64 0, .int .i64 0] 24)).alloc (.cells #[.int .i64 0, .int .i64 20, .slice none 0 0] 51)).alloc (.cells #[.int .i64 0, .int .i64 (len3 : Int), .int .i64 (len4 : Int), .slice none 0 0] 54))) := ⟨hR1, hR2, hR3, RL.none hb5, RL.none hb5⟩
              clear hb5 hR1 hR2 hR3
              go_upto_region 21 with fail
              generalize (((W4.alloc (.cells #[.int .i64 3, .int .i64 0, .int .i64 0, .int .i64 0] 24)).alloc (.cells #[.int .i64 0, .int .i64 20, .slice none 0 0] 51)).alloc (.cells #[.int .i64 0, .int .i64 (len3 : Int), .int .i64 (len4 : Int), .slice none 0 0] 54)) = W5 at *
              obtain ⟨j0, hj0, hy0, hy1, hy2⟩ := info_block
              obtain ⟨k0, hk0, hx0, hx1, hx2⟩ := info_mblock
              go_wp2
              go_loopg [21] 31 (fun g u21 wr => ∃ (k : Nat) (AF : Option Addr) (cF : Nat) (AG : Option Addr) (cG : Nat), k + g = 31 ∧ u21 = .int .i64 k ∧ Hid (BF W4 len3 len4 k AF cF (List.replicate k z5) k AG cG (List.replicate k z5) wr))
              case atStart => exact ⟨0, none, 0, none, 0, by omega, by go_num, HF.out⟩
              case round =>
                clear HF
                obtain ⟨k, AF, cF, AG, cG, hg, rfl, HF⟩ := hrel
                by_cases hk : k < 31
                · skip
                  focus
                    have hkz : (k : Int) < 31 := by omega
                    have t0 := HF.out.e.cell 0; have t1 := HF.out.e.cell 1; have t2 := HF.out.e.cell 2; have t3 := HF.out.e.cell 3
                    have v2 := HF.out.f.cell 2
                    simp only [List.getElem?_toArray, List.getElem?_cons_zero, List.getElem?_cons_succ] at t0 t1 t2 t3 v2
                    go_upto_region 24 with fail
                    have hown := (by have := (HF.out.rf.alloc (.cells #[.slice none 0 0, .int .i64 3, .int .i64 0, .int .i64 0, .int .i64 0] 26)).own; rwa [List.length_replicate] at this)
                    have hnew := sees_new wr #[.slice none 0 0, .int .i64 3, .int .i64 0, .int .i64 0, .int .i64 0] 26
                    have hsz9 := HF.out.rf.blw.size
                    go_wp2_with (at_builtin; go_loud (refine wpList_append_any _ rfl (.tmp 153) (.tmp 156) 49 rfl _ 26 j0 (.agg #[.slice none 0 0, .int .i64 0, .int .i64 0, .int .i64 0, .int .i64 0]) 5 56 Try.underlying49 hj0 hy0 hy1 hy2 rfl (by decide) _ _ _ rfl hown (wr.heap.size + 1) _ 1 1 _ rfl hnew rfl z5_one (by unfold maxLen; omega) (by omega) (by simp; omega) ?_))
                    intro v6 W6 ho2 hg2 hb2
                    clear hown hnew hb2 hsz9
                    obtain ⟨AF', cF', rfl, hrow, hbf⟩ := HF.out.pushF (by simp) z5 ho2 hg2
                    have HF6 := Lib.hid hbf
                    have w2 := hrow.cell 2
                    have g2 := hrow.frozen 2
                    simp only [List.getElem?_toArray, List.getElem?_cons_zero, List.getElem?_cons_succ] at w2
                    clear hrow hbf HF ho2 hg2 t0 t1 t2 t3 v2
                    go_upto_region 25 with fail
                    clear w2 g2
                    generalize (W6.setCell ⟨W4.heap.size + 1, 2, none⟩ (.slice AF' (k + 1) cF')) = W7 at *
                    have t0 := HF6.out.e.cell 0; have t1 := HF6.out.e.cell 1; have t2 := HF6.out.e.cell 2; have t3 := HF6.out.e.cell 3
                    have v3 := HF6.out.g.cell 3
                    simp only [List.getElem?_toArray, List.getElem?_cons_zero, List.getElem?_cons_succ] at t0 t1 t2 t3 v3
                    have hown := (by have := (HF6.out.rg.alloc (.cells #[.slice none 0 0, .int .i64 3, .int .i64 0, .int .i64 0, .int .i64 0] 29)).own; rwa [List.length_replicate] at this)
                    have hnew := sees_new W7 #[.slice none 0 0, .int .i64 3, .int .i64 0, .int .i64 0, .int .i64 0] 29
                    have hsz9 := HF6.out.rf.blw.size
                    go_wp2_with (at_builtin; go_loud (refine wpList_append_any _ rfl (.tmp 160) (.tmp 163) 52 rfl _ 29 k0 (.agg #[.slice none 0 0, .int .i64 0, .int .i64 0, .int .i64 0, .int .i64 0]) 5 56 Try.underlying52 hk0 hx0 hx1 hx2 rfl (by decide) _ _ _ rfl hown (W7.heap.size + 1) _ 1 1 _ rfl hnew rfl z5_one (by unfold maxLen; omega) (by omega) (by simp; omega) ?_))
                    intro v8 W8 ho2 hg2 hb2
                    clear hown hnew hb2 hsz9
                    obtain ⟨AG', cG', rfl, hrow, hbf⟩ := HF6.out.pushG (by simp) z5 ho2 hg2
                    have HF8 := Lib.hid hbf
                    have w2 := hrow.cell 3
                    have g2 := hrow.frozen 3
                    simp only [List.getElem?_toArray, List.getElem?_cons_zero, List.getElem?_cons_succ] at w2
                    clear hrow hbf HF6 ho2 hg2 t0 t1 t2 t3 v3
                    go_wp2
                    go_roundg (31 - (k + 1))
                    case measure => omega
                    case rel => exact ⟨k + 1, AF', cF', AG', cG', by omega, by go_num, by rw [List.replicate_succ']; exact HF8.out⟩
                · have hkz : ¬ (k : Int) < 31 := by omega
                  obtain rfl : k = 31 := by omega
                  have HF5 : Hid (BF W4 len3 len4 31 AF cF (z5 :: List.replicate 30 z5) 31 AG cG (z5 :: List.replicate 30 z5) wr) := HF.out
                  have HK5 := Lib.hid (HK4.out.next HF.out.rf.blw)
                  clear HF hj0 hy0 hy1 hy2 hk0 hx0 hx1 hx2 hk hkz hg
                  obtain ⟨gf, rfl, hgf, z0, z1, z2, z3, z4⟩ := rl_cell5 HF5.out.rf
                  have y0 : wr.frozen? ⟨gf, 0, none⟩ = false := HF5.out.rf.frozen
                  have y1 : wr.frozen? ⟨gf, 1, none⟩ = false := HF5.out.rf.frozen
                  have y2 : wr.frozen? ⟨gf, 2, none⟩ = false := HF5.out.rf.frozen
                  have y3 : wr.frozen? ⟨gf, 3, none⟩ = false := HF5.out.rf.frozen
                  have y4 : wr.frozen? ⟨gf, 4, none⟩ = false := HF5.out.rf.frozen
                  have v2 := HF5.out.f.cell 2
                  simp only [List.getElem?_toArray, List.getElem?_cons_zero, List.getElem?_cons_succ] at v2
                  have HKB := Lib.hid HK5.out.k
                  have b0 := HKB.out.b.cell 0; have b1 := HKB.out.b.cell 1; have b2 := HKB.out.b.cell 2; have b3 := HKB.out.b.cell 3; have b4 := HKB.out.b.cell 4
                  have m0 := HKB.out.m.cell 0; have m1 := HKB.out.m.cell 1; have m2 := HKB.out.m.cell 2; have m3 := HKB.out.m.cell 3; have m4 := HKB.out.m.cell 4
                  simp only [List.getElem?_toArray, List.getElem?_cons_zero, List.getElem?_cons_succ] at b0 b1 b2 b3 b4 m0 m1 m2 m3 m4
                  go_upto_region 27 with fail
                  have HF6 := Lib.hid (HF5.out.setF ⟨.slice A1 n1 c1, bt.kind, bt.a, bt.to, bt.el⟩)
                  dsimp only at HF6
                  generalize (((((wr.setCell ⟨gf, 0, none⟩ (.slice A1 n1 c1)).setCell ⟨gf, 1, none⟩ (.int .i64 bt.kind)).setCell ⟨gf, 2, none⟩ (.int .i64 bt.a)).setCell ⟨gf, 3, none⟩ (.int .i64 bt.to)).setCell ⟨gf, 4, none⟩ (.int .i64 bt.el)) = W6 at *
                  clear HKB b0 b1 b2 b3 b4 m0 m1 m2 m3 m4 z0 z1 z2 z3 z4 y0 y1 y2 y3 y4 v2 HF5 HK5
                  have HK6 := Lib.hid (HK4.out.next HF6.out.rf.blw)
                  obtain ⟨gg, rfl, hgg, z0, z1, z2, z3, z4⟩ := rl_cell5 HF6.out.rg
                  have y0 : W6.frozen? ⟨gg, 0, none⟩ = false := HF6.out.rg.frozen
                  have y1 : W6.frozen? ⟨gg, 1, none⟩ = false := HF6.out.rg.frozen
                  have y2 : W6.frozen? ⟨gg, 2, none⟩ = false := HF6.out.rg.frozen
                  have y3 : W6.frozen? ⟨gg, 3, none⟩ = false := HF6.out.rg.frozen
                  have y4 : W6.frozen? ⟨gg, 4, none⟩ = false := HF6.out.rg.frozen
                  have v3 := HF6.out.g.cell 3
                  simp only [List.getElem?_toArray, List.getElem?_cons_zero, List.getElem?_cons_succ] at v3
                  have HKB := Lib.hid HK6.out.k
                  have b0 := HKB.out.b.cell 0; have b1 := HKB.out.b.cell 1; have b2 := HKB.out.b.cell 2; have b3 := HKB.out.b.cell 3; have b4 := HKB.out.b.cell 4
                  have m0 := HKB.out.m.cell 0; have m1 := HKB.out.m.cell 1; have m2 := HKB.out.m.cell 2; have m3 := HKB.out.m.cell 3; have m4 := HKB.out.m.cell 4
                  simp only [List.getElem?_toArray, List.getElem?_cons_zero, List.getElem?_cons_succ] at b0 b1 b2 b3 b4 m0 m1 m2 m3 m4
                  go_upto_region 28 with fail
                  have HF7 := Lib.hid (HF6.out.setG ⟨.slice A2 n2 c2, mt.kind, mt.a, mt.to, mt.el⟩)
                  dsimp only at HF7
                  generalize (((((W6.setCell ⟨gg, 0, none⟩ (.slice A2 n2 c2)).setCell ⟨gg, 1, none⟩ (.int .i64 mt.kind)).setCell ⟨gg, 2, none⟩ (.int .i64 mt.a)).setCell ⟨gg, 3, none⟩ (.int .i64 mt.to)).setCell ⟨gg, 4, none⟩ (.int .i64 mt.el)) = W7 at *
                  clear HKB b0 b1 b2 b3 b4 m0 m1 m2 m3 m4 z0 z1 z2 z3 z4 y0 y1 y2 y3 y4 v3 HF6 HK6
                  have HK7 := Lib.hid (HK4.out.next HF7.out.rf.blw)
                  obtain ⟨bs, hbs⟩ : ∃ z, z = ((⟨code, bt⟩ : Blk) :: List.replicate 30 ⟨[], zt⟩) := ⟨_, rfl⟩
                  obtain ⟨ms, hms⟩ : ∃ z, z = ((⟨mach, mt⟩ : MBlk) :: List.replicate 30 ⟨[], zt⟩) := ⟨_, rfl⟩
                  have hw4 := HF7.out.rf.blw.size
                  have HQX : Hid (QX W7.heap.size w.heap.size bt mt A1 n1 c1 A2 n2 c2 (W4.heap.size + 1) (W4.heap.size + 1 + 1) rb len3 len4 (some ⟨gf, 0, none⟩) cF (some ⟨gg, 0, none⟩) cG bs ms Ax cx RC W7) :=
                    ⟨HK7.out.k.b, HK7.out.k.m, HF7.out.f, HF7.out.g, HRW.out.below HF7.out.rf.blw HRW.out.lt, by rw [hbs]; exact rl_blks HF7.out.rf HK7.out.k.cs, by rw [hms]; exact rl_mblks HF7.out.rg HK7.out.k.ms, (HP3.out.sees.below HF7.out.rf.blw).more hw4, HK7.out.k.m.lt, HF7.out.f.lt, HF7.out.g.lt, by have := HRW.out.lt; omega⟩
                  have HWB := Lib.hid HK7.out.k.blw
                  have HML : Hid (RC.out.length ≤ 9223372036854775807) := by
                    obtain ⟨_, _, _, hl1, hl2⟩ := HP3.out.slice
                    unfold maxLen at hl2
                    show _ ≤ _
                    omega
                  have HLX := Lib.hid HK7.out.x.len
                  have HLR := Lib.hid HK7.out.r.len
                  have HLS := Lib.hid HK7.out.s.len
                  clear HF7 HK4 HRW HP3 hgf hgg
                  obtain ⟨j0, hj0, hy0, hy1, hy2⟩ := info_i64
                  go_upto_region 28 with fail
                  have hs9 := Lib.hid ((HK7.out.x.see).alloc (Nat.le_refl _) (.cells #[] 2))
                  go_wp2_with (at_builtin; go_loud (refine wpList_append_any _ rfl (.tmp 174) (.tmp 175) 44 rfl W7.heap.size 2 j0 (.int .i64 0) 1 8 Try.underlying44 hj0 hy0 hy1 hy2 rfl (by decide) _ _ _ rfl (own_empty W7 2 1) W7.heap.size _ _ _ (ints x) rfl hs9.out (by rw [ints_length, HLX.out, Nat.mul_one]) (ints_one _) (by unfold maxLen; omega) (by omega) (by simp) ?_))
                  intro v8 W8 ho1 hg1 _
                  have HX8 : Hid (IL W7 v8 x W8) := IL.clone (by have := HLX.out; omega) ho1 hg1
                  clear ho1 hg1 hs9
                  obtain ⟨Bx, ex, rfl⟩ := HX8.out.sliceN HLX.out
                  go_upto_region 29 with fail
                  have HX9 := Lib.hid (HX8.out.next ((Below.refl W8.heap.size W8).alloc (Nat.le_refl _) (.cells #[.int .i64 0, .int .i64 0, .int .i64 0, .int .i64 0, .slice Bx 20 ex, .slice none 0 0, .slice none 0 0, .int .i64 0] 56)))
                  have HXR := Lib.hid (Row.new W8 56 #[.int .i64 0, .int .i64 0, .int .i64 0, .int .i64 0, .slice Bx 20 ex, .slice none 0 0, .slice none 0 0, .int .i64 0])
                  have hxq : W7.heap.size ≤ W8.heap.size := HX8.out.blw.size
                  clear HX8
                  generalize (W8.alloc (.cells #[.int .i64 0, .int .i64 0, .int .i64 0, .int .i64 0, .slice Bx 20 ex, .slice none 0 0, .slice none 0 0, .int .i64 0] 56)) = W9 at *
                  generalize W8.heap.size = xq at *
                  have hs9 := Lib.hid (((HK7.out.r.below HX9.out.blw).see).alloc (Nat.le_refl _) (.cells #[] 2))
                  go_wp2_with (at_builtin; go_loud (refine wpList_append_any _ rfl (.tmp 178) (.tmp 179) 44 rfl W9.heap.size 2 j0 (.int .i64 0) 1 8 Try.underlying44 hj0 hy0 hy1 hy2 rfl (by decide) _ _ _ rfl (own_empty W9 2 1) W9.heap.size _ _ _ (ints yr) rfl hs9.out (by rw [ints_length, HLR.out, Nat.mul_one]) (ints_one _) (by unfold maxLen; omega) (by omega) (by simp) ?_))
                  intro v10 W10 ho1 hg1 _
                  have HY10 : Hid (IL W9 v10 yr W10) := IL.clone (by have := HLR.out; omega) ho1 hg1
                  clear ho1 hg1 hs9
                  obtain ⟨By, ey, rfl⟩ := HY10.out.sliceN HLR.out
                  have HX10 := Lib.hid (HX9.out.next HY10.out.blw)
                  have hs9 := Lib.hid (((HK7.out.s.below HX10.out.blw).see).alloc (Nat.le_refl _) (.cells #[] 2))
                  go_wp2_with (at_builtin; go_loud (refine wpList_append_any _ rfl (.tmp 181) (.tmp 182) 44 rfl W10.heap.size 2 j0 (.int .i64 0) 1 8 Try.underlying44 hj0 hy0 hy1 hy2 rfl (by decide) _ _ _ rfl (own_empty W10 2 1) W10.heap.size _ _ _ (ints ys) rfl hs9.out (by rw [ints_length, HLS.out, Nat.mul_one]) (ints_one _) (by unfold maxLen; omega) (by omega) (by simp) ?_))
                  intro v11 W11 ho1 hg1 _
                  have HS11 : Hid (IL W10 v11 ys W11) := IL.clone (by have := HLS.out; omega) ho1 hg1
                  clear ho1 hg1 hs9
                  obtain ⟨Bs, es, rfl⟩ := HS11.out.sliceN HLS.out
                  go_upto_region 30 with fail
                  have HO : Hid (O2 W7.heap.size xq W11.heap.size Bx ex none 0 none 0 ⟨0, 0, 0, 0, x, [], 0⟩ By ey Bs es none 0 ⟨0, 0, 0, 0, yr, ys, [], 0⟩ W7 (W11.alloc (.cells #[.int .i64 0, .int .i64 0, .int .i64 0, .int .i64 0, .slice By len3 ey, .slice Bs len4 es, .slice none 0 0, .int .i64 0] 56))) := by
                    have hb11 := HX10.out.blw.trans (HS11.out.blw.mono HX10.out.blw.size)
                    have hb12 := hb11.alloc hb11.size (.cells #[.int .i64 0, .int .i64 0, .int .i64 0, .int .i64 0, .slice By len3 ey, .slice Bs len4 es, .slice none 0 0, .int .i64 0] 56)
                    have h1 := (((HXR.out.below HY10.out.blw HXR.out.lt).below HS11.out.blw (by have := HXR.out.lt; have := HY10.out.blw.size; omega)).alloc (.cells #[.int .i64 0, .int .i64 0, .int .i64 0, .int .i64 0, .slice By len3 ey, .slice Bs len4 es, .slice none 0 0, .int .i64 0] 56))
                    have h2 := Row.new W11 56 #[.int .i64 0, .int .i64 0, .int .i64 0, .int .i64 0, .slice By len3 ey, .slice Bs len4 es, .slice none 0 0, .int .i64 0]
                    have h3 := ((HX10.out.next HS11.out.blw).next ((Below.refl _ _).alloc (Nat.le_refl _) (.cells #[.int .i64 0, .int .i64 0, .int .i64 0, .int .i64 0, .slice By len3 ey, .slice Bs len4 es, .slice none 0 0, .int .i64 0] 56))).own
                    have h4 := (HY10.out.next HS11.out.blw).next ((Below.refl _ _).alloc (Nat.le_refl _) (.cells #[.int .i64 0, .int .i64 0, .int .i64 0, .int .i64 0, .slice By len3 ey, .slice Bs len4 es, .slice none 0 0, .int .i64 0] 56))
                    have h5 := HS11.out.next ((Below.refl _ _).alloc (Nat.le_refl _) (.cells #[.int .i64 0, .int .i64 0, .int .i64 0, .int .i64 0, .slice By len3 ey, .slice Bs len4 es, .slice none 0 0, .int .i64 0] 56))
                    refine ⟨hb12, ?_, ?_, ⟨?_, own_none _ _ _ _, fun k hk hk2 => by simp [Value.ownBlock] at hk2⟩, ⟨?_, ?_, own_none _ _ _ _, ?_, fun k hk hk2 => by simp [Value.ownBlock] at hk2, fun k hk hk2 => by simp [Value.ownBlock] at hk2⟩, ?_, hxq, hb11.size⟩
                    · show Row _ _ _ #[.int .i64 0, .int .i64 0, .int .i64 0, .int .i64 0, .slice Bx x.length ex, .slice none 0 0, .slice none 0 0, .int .i64 0]
                      rw [HLX.out]
                      exact h1
                    · show Row _ _ _ #[.int .i64 0, .int .i64 0, .int .i64 0, .int .i64 0, .slice By yr.length ey, .slice Bs ys.length es, .slice none 0 0, .int .i64 0]
                      rw [HLR.out, HLS.out]
                      exact h2
                    · show World.ownsRow _ _ _ 1 (.slice Bx x.length ex) x.length _
                      rw [HLX.out] at h3 ⊢
                      exact h3
                    · show World.ownsRow _ _ _ 1 (.slice By yr.length ey) yr.length _
                      have h4 := h4.own
                      rw [HLR.out] at h4 ⊢
                      exact ownS_base h4 HX9.out.blw.size
                    · show World.ownsRow _ _ _ 1 (.slice Bs ys.length es) ys.length _
                      have h5 := h5.own
                      rw [HLS.out] at h5 ⊢
                      exact ownS_base h5 HX10.out.blw.size
                    · intro k hk hk2
                      have hk : (Value.slice By yr.length ey).ownBlock = some k := hk
                      have hk2 : (Value.slice Bs ys.length es).ownBlock = some k := hk2
                      rw [HLR.out] at hk
                      rw [HLS.out] at hk2
                      have e1 := (ownS_lt HY10.out.own k hk).2
                      have e2 := (ownS_lt HS11.out.own k hk2).1
                      omega
                    · have e1 := HXR.out.lt
                      have e2 := HX10.out.blw.size
                      have e3 := HY10.out.blw.size
                      have e4 := HS11.out.blw.size
                      omega
                  clear HX9 HXR HY10 HX10 HS11 hxq HK7 hj0 hy0 hy1 hy2
                  generalize (W11.alloc (.cells #[.int .i64 0, .int .i64 0, .int .i64 0, .int .i64 0, .slice By len3 ey, .slice Bs len4 es, .slice none 0 0, .int .i64 0] 56)) = W12 at *
                  generalize W11.heap.size = yq at *
                  generalize W7.heap.size = B at *
                  obtain ⟨r0, hr0⟩ : ∃ z, z = (⟨0, 0, 0, 0, x, [], 0⟩ : Rn) := ⟨_, rfl⟩
                  obtain ⟨y0, hy0⟩ : ∃ z, z = (⟨0, 0, 0, 0, yr, ys, [], 0⟩ : Xn) := ⟨_, rfl⟩
                  rw [← hr0, ← hy0] at HO
                  have HGX : Hid (Good 20 ((⟨code, bt⟩ : Blk) :: List.replicate 30 ⟨[], zt⟩) r0) := by rw [hr0]; exact good31 HLX.out HXW.out
                  have HGY : Hid (GoodX len3 len4 ((⟨mach, mt⟩ : MBlk) :: List.replicate 30 ⟨[], zt⟩) y0) := by rw [hy0]; exact xgood31 HLR.out HLS.out HRW.out HSW.out
                  have hs0 : r0.steps = 0 := by rw [hr0]
                  have ht0 : y0.steps = 0 := by rw [hy0]
                  have CSX : Hid (∀ V RA rc SA sc TA tc k, k ≤ 1000 → RunV V B RA rc TA tc (runR ((⟨code, bt⟩ : Blk) :: List.replicate 30 ⟨[], zt⟩) r0 k) → BlksAt V B (some ⟨gf, 0, none⟩) ((⟨code, bt⟩ : Blk) :: List.replicate 30 ⟨[], zt⟩) → B ≤ V.heap.size → Calls Try.prog 15 #[.agg #[.int .i64 0, .int .i64 20, .slice (some ⟨gf, 0, none⟩) 31 cF], .agg #[.int .i64 ((runR ((⟨code, bt⟩ : Blk) :: List.replicate 30 ⟨[], zt⟩) r0 k)).st, .int .i64 (((runR ((⟨code, bt⟩ : Blk) :: List.replicate 30 ⟨[], zt⟩) r0 k)).blk : Int), .int .i64 (((runR ((⟨code, bt⟩ : Blk) :: List.replicate 30 ⟨[], zt⟩) r0 k)).pos : Int), .int .i64 ((runR ((⟨code, bt⟩ : Blk) :: List.replicate 30 ⟨[], zt⟩) r0 k)).val, .slice RA ((runR ((⟨code, bt⟩ : Blk) :: List.replicate 30 ⟨[], zt⟩) r0 k)).regs.length rc, .slice SA 0 sc, .slice TA ((runR ((⟨code, bt⟩ : Blk) :: List.replicate 30 ⟨[], zt⟩) r0 k)).trace.length tc, .int .i64 (((runR ((⟨code, bt⟩ : Blk) :: List.replicate 30 ⟨[], zt⟩) r0 k)).steps : Int)]] V (RunP V (runR ((⟨code, bt⟩ : Blk) :: List.replicate 30 ⟨[], zt⟩) r0 (k + 1)))) := fun V RA rc SA sc TA tc k hk hv hbl hB =>
                    step31 hv hbl hB HQ.out.f (run_good HQ.out.f HGX.out k) (by have := (run_steps ((⟨code, bt⟩ : Blk) :: List.replicate 30 ⟨[], zt⟩) r0 k).1; omega) HB1.out
                  have CSY : Hid (∀ V RA rc SA sc TA tc k, k ≤ 1000 → XV V B RA rc SA sc TA tc (runX ((⟨mach, mt⟩ : MBlk) :: List.replicate 30 ⟨[], zt⟩) y0 k) → MBlksAt V B (some ⟨gg, 0, none⟩) ((⟨mach, mt⟩ : MBlk) :: List.replicate 30 ⟨[], zt⟩) → B ≤ V.heap.size → Calls Try.prog 16 #[.agg #[.int .i64 0, .int .i64 (len3 : Int), .int .i64 (len4 : Int), .slice (some ⟨gg, 0, none⟩) 31 cG], .agg #[.int .i64 ((runX ((⟨mach, mt⟩ : MBlk) :: List.replicate 30 ⟨[], zt⟩) y0 k)).st, .int .i64 (((runX ((⟨mach, mt⟩ : MBlk) :: List.replicate 30 ⟨[], zt⟩) y0 k)).blk : Int), .int .i64 (((runX ((⟨mach, mt⟩ : MBlk) :: List.replicate 30 ⟨[], zt⟩) y0 k)).pos : Int), .int .i64 ((runX ((⟨mach, mt⟩ : MBlk) :: List.replicate 30 ⟨[], zt⟩) y0 k)).val, .slice RA ((runX ((⟨mach, mt⟩ : MBlk) :: List.replicate 30 ⟨[], zt⟩) y0 k)).regs.length rc, .slice SA ((runX ((⟨mach, mt⟩ : MBlk) :: List.replicate 30 ⟨[], zt⟩) y0 k)).slots.length sc, .slice TA ((runX ((⟨mach, mt⟩ : MBlk) :: List.replicate 30 ⟨[], zt⟩) y0 k)).trace.length tc, .int .i64 (((runX ((⟨mach, mt⟩ : MBlk) :: List.replicate 30 ⟨[], zt⟩) y0 k)).steps : Int)]] V (XP V (runX ((⟨mach, mt⟩ : MBlk) :: List.replicate 30 ⟨[], zt⟩) y0 (k + 1)))) := fun V RA rc SA sc TA tc k hk hv hbl hB =>
                    xstep31 hv hbl hB HQ.out.m (runX_good HQ.out.m HGY.out k) (by have := (runX_steps ((⟨mach, mt⟩ : MBlk) :: List.replicate 30 ⟨[], zt⟩) y0 k).1; omega) HB2.out (by omega) (by omega)
                  rw [← hbs] at CSX HGX
                  rw [← hms] at CSY HGY
                  have HBS := Lib.hid hbs
                  have HMS := Lib.hid hms
                  have HR0 := Lib.hid hr0
                  have HY0 := Lib.hid hy0
                  have hn1 : n1 ≤ 60 := by have := HB1.out; have := HN1.out; omega
                  have hn2 : n2 ≤ 200 := by have := HB2.out; have := HN2.out; omega
                  clear hbs hms hr0 hy0 hs0 ht0 hw4
                  go_wp2
                  go_loopg [24] (n1 + 1) (fun g u24 wr => ∃ (k : Nat) (RA : Option Addr) (rc : Nat) (SA : Option Addr) (sc : Nat) (TA : Option Addr) (tc : Nat), k + g = n1 + 1 ∧ u24 = .int .i64 k ∧ Hid (O2 B xq yq RA rc SA sc TA tc (runR bs r0 k) By ey Bs es none 0 y0 W7 wr))
                  case atStart => exact ⟨0, Bx, ex, none, 0, none, 0, by omega, by go_num, HO.out⟩
                  case round =>
                    clear HO
                    obtain ⟨k, RA, rc, SA, sc, TA, tc, hg, rfl, HO⟩ := hrel
                    have HQ9 := Lib.hid (HQX.out.next HO.out.blw)
                    have b0 := HQ9.out.b.cell 0
                    simp only [List.getElem?_toArray, List.getElem?_cons_zero] at b0
                    by_cases hk : k < n1 + 1
                    · skip
                      focus
                        have hkz : (k : Int) ≤ (n1 : Int) := by omega
                        have C := Lib.hid (CSX.out wr RA rc SA sc TA tc k (by omega) HO.out.xv HQ9.out.bs (by have := HO.out.xr.lt; have := HO.out.lx; omega))
                        have f0 := HQ9.out.f.cell 0; have f1 := HQ9.out.f.cell 1; have f2 := HQ9.out.f.cell 2
                        have x0 := HO.out.xr.cell 0; have x1 := HO.out.xr.cell 1; have x2 := HO.out.xr.cell 2; have x3 := HO.out.xr.cell 3; have x4 := HO.out.xr.cell 4; have x5 := HO.out.xr.cell 5; have x6 := HO.out.xr.cell 6; have x7 := HO.out.xr.cell 7
                        simp only [List.getElem?_toArray, List.getElem?_cons_zero, List.getElem?_cons_succ] at f0 f1 f2 x0 x1 x2 x3 x4 x5 x6 x7
                        generalize runR bs r0 k = r at *
                        obtain ⟨r', hr'⟩ : ∃ z, z = runR bs r0 (k + 1) := ⟨_, rfl⟩
                        rw [← hr'] at C
                        have HR' := Lib.hid hr'
                        clear hr'
                        go_wp2_with fail
                        refine C.out.mono ?_
                        rintro e W13 ⟨RA', rc', SA', sc', TA', tc', rfl, hv, hb⟩
                        have HO1 := Lib.hid (HO.out.next hb)
                        have HV := Lib.hid (hv.base (show B ≤ wr.heap.size by have := HO.out.xr.lt; have := HO.out.lx; omega))
                        clear hv hb C HO f0 f1 f2 x0 x1 x2 x3 x4 x5 x6 x7 b0 HQ9
                        have x0 := HO1.out.xr.cell 0; have x1 := HO1.out.xr.cell 1; have x2 := HO1.out.xr.cell 2; have x3 := HO1.out.xr.cell 3; have x4 := HO1.out.xr.cell 4; have x5 := HO1.out.xr.cell 5; have x6 := HO1.out.xr.cell 6; have x7 := HO1.out.xr.cell 7
                        have g0 := HO1.out.xr.frozen 0; have g1 := HO1.out.xr.frozen 1; have g2 := HO1.out.xr.frozen 2; have g3 := HO1.out.xr.frozen 3; have g4 := HO1.out.xr.frozen 4; have g5 := HO1.out.xr.frozen 5; have g6 := HO1.out.xr.frozen 6; have g7 := HO1.out.xr.frozen 7
                        simp only [List.getElem?_toArray, List.getElem?_cons_zero, List.getElem?_cons_succ] at x0 x1 x2 x3 x4 x5 x6 x7
                        have HO2 := Lib.hid (HO1.out.putX (SA' := SA') (sc' := sc') HV.out)
                        clear HO1 HV
                        go_wp2
                        go_roundg (n1 + 1 - (k + 1))
                        case measure => omega
                        case rel => exact ⟨k + 1, RA', rc', SA', sc', TA', tc', by omega, by go_num, by rw [← HR'.out]; exact HO2.out⟩
                    · have hkz : ¬ (k : Int) ≤ (n1 : Int) := by omega
                      obtain rfl : k = n1 + 1 := by omega
                      obtain ⟨r1, hr1⟩ : ∃ z, z = runR bs r0 (n1 + 1) := ⟨_, rfl⟩
                      rw [← hr1] at HO
                      have HR1 := Lib.hid hr1
                      obtain ⟨W14, h14⟩ : ∃ z, z = wr := ⟨_, rfl⟩
                      subst h14
                      clear hr1 hk hg CSX
                      go_wp2
                      go_loopg [25] (n2 + 1) (fun g u25 wr => ∃ (k : Nat) (RB : Option Addr) (rd : Nat) (SB : Option Addr) (sd : Nat) (TB : Option Addr) (td : Nat), k + g = n2 + 1 ∧ u25 = .int .i64 k ∧ Hid (O2 B xq yq RA rc SA sc TA tc r1 RB rd SB sd TB td (runX ms y0 k) W7 wr))
                      case atStart => exact ⟨0, By, ey, Bs, es, none, 0, by omega, by go_num, HO.out⟩
                      case round =>
                        clear HO HQ9 b0
                        obtain ⟨k, RB, rd, SB, sd, TB, td, hg, rfl, HO⟩ := hrel
                        have HQ9 := Lib.hid (HQX.out.next HO.out.blw)
                        have m0 := HQ9.out.m.cell 0
                        simp only [List.getElem?_toArray, List.getElem?_cons_zero] at m0
                        by_cases hk : k < n2 + 1
                        · skip
                          focus
                            have hkz : (k : Int) ≤ (n2 : Int) := by omega
                            have C := Lib.hid (CSY.out wr RB rd SB sd TB td k (by omega) HO.out.yv HQ9.out.ms (by have := HO.out.yr.lt; have := HO.out.ly; omega))
                            have f0 := HQ9.out.g.cell 0; have f1 := HQ9.out.g.cell 1; have f2 := HQ9.out.g.cell 2; have f3 := HQ9.out.g.cell 3
                            have x0 := HO.out.yr.cell 0; have x1 := HO.out.yr.cell 1; have x2 := HO.out.yr.cell 2; have x3 := HO.out.yr.cell 3; have x4 := HO.out.yr.cell 4; have x5 := HO.out.yr.cell 5; have x6 := HO.out.yr.cell 6; have x7 := HO.out.yr.cell 7
                            simp only [List.getElem?_toArray, List.getElem?_cons_zero, List.getElem?_cons_succ] at f0 f1 f2 f3 x0 x1 x2 x3 x4 x5 x6 x7
                            generalize runX ms y0 k = r at *
                            obtain ⟨r', hr'⟩ : ∃ z, z = runX ms y0 (k + 1) := ⟨_, rfl⟩
                            rw [← hr'] at C
                            have HR' := Lib.hid hr'
                            clear hr'
                            go_wp2_with fail
                            refine C.out.mono ?_
                            rintro e W13 ⟨RB', rd', SB', sd', TB', td', rfl, hv, hb⟩
                            have HO1 := Lib.hid (HO.out.next hb)
                            have HV := Lib.hid (hv.base (show B ≤ wr.heap.size by have := HO.out.yr.lt; have := HO.out.ly; omega))
                            clear hv hb C HO f0 f1 f2 f3 x0 x1 x2 x3 x4 x5 x6 x7 m0 HQ9
                            have x0 := HO1.out.yr.cell 0; have x1 := HO1.out.yr.cell 1; have x2 := HO1.out.yr.cell 2; have x3 := HO1.out.yr.cell 3; have x4 := HO1.out.yr.cell 4; have x5 := HO1.out.yr.cell 5; have x6 := HO1.out.yr.cell 6; have x7 := HO1.out.yr.cell 7
                            have g0 := HO1.out.yr.frozen 0; have g1 := HO1.out.yr.frozen 1; have g2 := HO1.out.yr.frozen 2; have g3 := HO1.out.yr.frozen 3; have g4 := HO1.out.yr.frozen 4; have g5 := HO1.out.yr.frozen 5; have g6 := HO1.out.yr.frozen 6; have g7 := HO1.out.yr.frozen 7
                            simp only [List.getElem?_toArray, List.getElem?_cons_zero, List.getElem?_cons_succ] at x0 x1 x2 x3 x4 x5 x6 x7
                            have HO2 := Lib.hid (HO1.out.putY HV.out)
                            clear HO1 HV
                            go_wp2
                            go_roundg (n2 + 1 - (k + 1))
                            case measure => omega
                            case rel => exact ⟨k + 1, RB', rd', SB', sd', TB', td', by omega, by go_num, by rw [← HR'.out]; exact HO2.out⟩
                        · have hkz : ¬ (k : Int) ≤ (n2 : Int) := by omega
                          obtain rfl : k = n2 + 1 := by omega
                          obtain ⟨y1, hy1⟩ : ∃ z, z = runX ms y0 (n2 + 1) := ⟨_, rfl⟩
                          rw [← hy1] at HO
                          have HSND : Hid (r1.st = 2 ∨ (r1.st = y1.st ∧ r1.blk = y1.blk ∧ r1.val = y1.val ∧ r1.trace = y1.trace ∧ HoldS len3 len4 RC.out r1.regs y1.regs y1.slots ∧ r1.regs.length = 20)) := by
                            have h := block_sound (N := 20) (n := len3) (m := len4) (code := code) (mach := mach) (bt := bt) (mt := mt) (bs := bs) (ms := ms) (most := 1000000) (by rw [HBS.out]; rfl) (by rw [HMS.out]; rfl) HQ.out.ins HQ.out.mis (ok := tmP bt mt) (fun h => by
                              simp only [tmP, Bool.and_eq_true, beq_iff_eq] at h
                              exact ⟨h.1.1, h.1.2, h.2⟩) (l := o) (x := r0) (y := y0) (by rw [HR0.out]; exact ⟨rfl, rfl, rfl, HLX.out, rfl⟩) (by rw [HY0.out]; exact ⟨rfl, rfl, rfl, HLR.out, HLS.out, rfl⟩) (by rw [HR0.out, HY0.out]) (by rw [HR0.out, HY0.out]; exact HI.out.hold HLX.out) (by rw [HRC.out]; exact HER.out)
                            rw [HN1.out, HN2.out, ← HR1.out, ← hy1, HRC.out] at h
                            exact h
                          have HGY1 : Hid (GoodX len3 len4 ms y1) := by rw [hy1]; exact runX_good (by rw [HMS.out]; exact HQ.out.m) HGY.out _
                          obtain ⟨W15, h15⟩ : ∃ z, z = wr := ⟨_, rfl⟩
                          subst h15
                          clear hk hg CSY hy1
                          have x0 := HO.out.xr.cell 0
                          simp only [List.getElem?_toArray, List.getElem?_cons_zero] at x0
                          by_cases h2 : r1.st = 2
                          · have h2b : (r1.st == 2) = true := by simp [h2]
                            have HB9 := Lib.hid (HWB.out.trans (HO.out.blw.mono (by have := HQX.out.lb; omega)))
                            clear h2
                            go_wp2
                            go_ret
                            exact ⟨rfl, HB9.out⟩
                          · have h2b : (r1.st == 2) = false := by simp [h2]
                            have HS2 := Lib.hid (HSND.out.resolve_left h2)
                            obtain ⟨hs1, hs2, hs3, hs4, _⟩ := HSND.out.resolve_left h2
                            have e0 : (r1.st != y1.st) = false := by simp [hs1]
                            have e1 : ((r1.blk : Int) != (y1.blk : Int)) = false := by simp [hs2]
                            have e4 : (r1.val != y1.val) = false := by simp [hs3]
                            have C := vals_any W15.heap.size TA TB r1.trace y1.trace tc td W15 HO.out.xv.str HO.out.yv.sts (Nat.le_trans (own_len HO.out.xv.trace).1 (own_len HO.out.xv.trace).2) (Nat.le_trans (own_len HO.out.yv.trace).1 (own_len HO.out.yv.trace).2)
                            rw [show sameI r1.trace y1.trace = true by rw [hs4]; exact sameI_self _] at C
                            have C := Lib.hid C
                            clear h2 HSND hs1 hs2 hs3 hs4
                            have x1 := HO.out.xr.cell 1; have x3 := HO.out.xr.cell 3; have x6 := HO.out.xr.cell 6
                            have z0 := HO.out.yr.cell 0; have z1 := HO.out.yr.cell 1; have z3 := HO.out.yr.cell 3; have z6 := HO.out.yr.cell 6
                            simp only [List.getElem?_toArray, List.getElem?_cons_zero, List.getElem?_cons_succ] at x1 x3 x6 z0 z1 z3 z6
                            go_wp2_with fail
                            refine C.out.mono ?_
                            rintro e W16 ⟨rfl, nq, rfl⟩
                            have HO16 := Lib.hid (HO.out.next (blw_drewN (Below.refl _ W15) nq))
                            clear C HO x0 x1 x3 x6 z0 z1 z3 z6 m0 HQ9
                            generalize W15.drewN nq = W16 at *
                            go_wp2
                            obtain ⟨m, hm⟩ : ∃ z, z = RC.out.length := ⟨_, rfl⟩
                            have HM := Lib.hid hm
                            have HM63 : Hid (m ≤ 9223372036854775807) := by rw [hm]; exact HML.out
                            clear hm
                            go_loopg [26] m (fun g u26 wr => ∃ (k : Nat), k + g = m ∧ u26 = .int .i64 k ∧ Hid (O2 B xq yq RA rc SA sc TA tc r1 RB rd SB sd TB td y1 W7 wr))
                            case atStart => exact ⟨0, by omega, by go_num, HO16.out⟩
                            case round =>
                              clear HO16
                              obtain ⟨k, hg, rfl, HO⟩ := hrel
                              have HQ9 := Lib.hid (HQX.out.next HO.out.blw)
                              have r0' := HQ9.out.r.cell 0
                              simp only [List.getElem?_toArray, List.getElem?_cons_zero] at r0'
                              rw [← HM.out] at r0'
                              by_cases hk : k < m
                              · have hkz : (k : Int) < (m : Int) := by omega
                                have hkl : k < RC.out.length := by rw [← HM.out]; exact hk
                                obtain ⟨b1, o1, eA, hb1, c0', c1'⟩ := sees_pair HQ9.out.o hkl
                                obtain ⟨p1, p2, p3, p4⟩ := HS2.out.2.2.2.2.1 _ (List.getElem_mem hkl)
                                have hl20 := HS2.out.2.2.2.2.2
                                subst eA
                                generalize RC.out[k] = pr at *
                                obtain ⟨pv, pl⟩ := pr
                                dsimp only at c0' c1' p1 p2 p3 p4
                                go_upto_region 46 with fail
                                obtain ⟨v, rfl⟩ := Int.eq_ofNat_of_zero_le p1
                                obtain ⟨lc, rfl⟩ := Int.eq_ofNat_of_zero_le p3.1
                                have hvl : v < r1.regs.length := by omega
                                obtain ⟨gr, rfl, hcr⟩ := regs_at HO.out.xv.regs hvl
                                have HO17 := Lib.hid (HO.out.next ((Below.refl wr.heap.size wr).alloc (Nat.le_refl _) (.cells #[.int .i64 (v : Int), .int .i64 (lc : Int)] 48)))
                                have hpr := Row.new wr 48 #[.int .i64 (v : Int), .int .i64 (lc : Int)]
                                have hcr17 := ((Below.refl wr.heap.size wr).alloc (Nat.le_refl _) (.cells #[.int .i64 (v : Int), .int .i64 (lc : Int)] 48)).cell (p := ⟨gr, v, none⟩) (World.block_lt_of_cell? _ _ hcr) |>.trans hcr
                                have hrd : rdX y1 (lc : Int) = rg r1.regs (v : Int) := p4
                                have hvlz : (v : Int) < (r1.regs.length : Int) := by omega
                                clear hcr HO HQ9 r0' c0' c1' p4 hb1 hl20 p1
                                generalize (wr.alloc (.cells #[.int .i64 (v : Int), .int .i64 (lc : Int)] 48)) = W17 at *
                                generalize wr.heap.size = pb at *
                                have D : Hid (∀ n os, Calls Try.prog 18 #[.agg #[.int .i64 (y1).st, .int .i64 ((y1).blk : Int), .int .i64 ((y1).pos : Int), .int .i64 (y1).val, .slice RB (y1).regs.length rd, .slice SB (y1).slots.length sd, .slice TB (y1).trace.length td, .int .i64 ((y1).steps : Int)], .int .i64 (lc : Int)] (Go.Sort.grow (W17.drewN n) os) fun e w' => e = .returned (.int .i64 (rg r1.regs (v : Int))) ∧ ∃ q os', w' = Go.Sort.grow ((Go.Sort.grow (W17.drewN n) os).drewN q) os') := fun n os => by
                                  have h := rread_gr y1 (lc : Int) B RB SB TB rd sd td (Go.Sort.grow (W17.drewN n) os) (HO17.out.yv.below (show Grew W17 _ from ⟨n, os, rfl⟩).below) (by rw [HGY1.out.lenr, HGY1.out.lens]; exact p3) (by rw [HGY1.out.lenr]; omega) (by rw [HGY1.out.lens]; omega)
                                  rw [hrd] at h
                                  exact h
                                clear hrd
                                generalize rg r1.regs (v : Int) = rv at *
                                have e9 : (rv != rv) = false := by simp
                                have a0 := hpr.cell 0; have a1 := hpr.cell 1
                                have x4 := HO17.out.xr.cell 4
                                have z0 := HO17.out.yr.cell 0; have z1 := HO17.out.yr.cell 1; have z2 := HO17.out.yr.cell 2; have z3 := HO17.out.yr.cell 3; have z4 := HO17.out.yr.cell 4; have z5 := HO17.out.yr.cell 5; have z6 := HO17.out.yr.cell 6; have z7 := HO17.out.yr.cell 7
                                simp only [List.getElem?_toArray, List.getElem?_cons_zero, List.getElem?_cons_succ] at a0 a1 x4 z0 z1 z2 z3 z4 z5 z6 z7
                                have j0 := fun n os => Go.cell_grown (World.block_lt_of_cell? _ _ a0) a0 n os
                                have j1 := fun n os => Go.cell_grown (World.block_lt_of_cell? _ _ a1) a1 n os
                                have g0 := fun n os => Go.cell_grown (World.block_lt_of_cell? _ _ z0) z0 n os
                                have g1 := fun n os => Go.cell_grown (World.block_lt_of_cell? _ _ z1) z1 n os
                                have g2 := fun n os => Go.cell_grown (World.block_lt_of_cell? _ _ z2) z2 n os
                                have g3 := fun n os => Go.cell_grown (World.block_lt_of_cell? _ _ z3) z3 n os
                                have g4 := fun n os => Go.cell_grown (World.block_lt_of_cell? _ _ z4) z4 n os
                                have g5 := fun n os => Go.cell_grown (World.block_lt_of_cell? _ _ z5) z5 n os
                                have g6 := fun n os => Go.cell_grown (World.block_lt_of_cell? _ _ z6) z6 n os
                                have g7 := fun n os => Go.cell_grown (World.block_lt_of_cell? _ _ z7) z7 n os
                                have g8 := fun n os => Go.cell_grown (World.block_lt_of_cell? _ _ x4) x4 n os
                                have g9 := fun n os => Go.cell_grown (World.block_lt_of_cell? _ _ hcr17) hcr17 n os
                                have d0 : decide ((v : Int) < 0) = false := by simp
                                have d1 : decide ((20 : Int) ≤ (v : Int)) = false := by simp; omega
                                have d2 : decide ((lc : Int) < 0) = false := by simp
                                have hv20 : ¬ (20 : Int) ≤ (v : Int) := by omega
                                have mixed : Try.prog.follows .mixedOrders = true := by kernel_rfl
                                obtain ⟨_, ⟨q1, q2⟩ | ⟨q1, q2⟩⟩ := p3
                                · obtain ⟨h, hh⟩ : ∃ h : Nat, (lc : Int) / 2 = (h : Int) := ⟨lc / 2, by omega⟩
                                  have q3 : (lc : Int).tmod 2 = (lc : Int) % 2 := Int.tmod_eq_emod_of_nonneg (by omega)
                                  have q4 : (lc : Int).tdiv 2 = (h : Int) := by rw [Int.tdiv_eq_ediv_of_nonneg (by omega)]; exact hh
                                  rw [q1] at q3
                                  have d3 : decide ((len4 : Int) ≤ (h : Int)) = false := by simp; omega
                                  have d4 : ¬ (len4 : Int) ≤ (h : Int) := by omega
                                  have d5 : decide (len4 ≤ h) = false := by simp; omega
                                  have d6 : h < len4 := by omega
                                  have q5 : IntKind.i64.wrap (h : Int) = (h : Int) := by rw [IntKind.wrap_i64] <;> omega
                                  clear hpr hcr17 a0 a1 x4 z0 z1 z2 z3 z4 z5 z6 z7 q2 p2 hvl
                                  rename_i i1 i2 i3 i4 i5 i6 i7 i8 i9 i10 i11 i12 i13 i14 i15 i16 i17 i18 i19 i20 i21 i22 i23 i24 i25 i26 i27 i28 i29 i30 i31 i32 i33 i34 i35 i36 i37 i38 i39 i40 i41 i42 i43 i44 i45 i46 i47 i48 i49 i50 i51 i52 i53 i54 i55 i56 i57 i58 i59
                                  revert a2 cap2 z2 a3 len3 cap3 z3 a4 len4 cap4 z4 a5 len5 cap5 w x yr ys i0 A1 c1 A2 c2 code bt mach mt n1 n2 HN1 HN2 e2 i1 e3 HXW HRW HSW HD i2 W0 W1 W2 hr9 hs9 HQ HB1 HB2 i3 i4 i5 u16 u51 u52 u53 u54 u55 u56 u57 u58 u59 u60 u61 u62 u63 u64 u65 u66 u67 u68 u69 u70 u71 u72 u73 u74 u75 u76 u77 u78 u79 u80 u81 u82 u83 u84 u85 u86 u87 u88 u89 u90 u91 u92 u93 u94 u95 u96 u97 u98 u99 u100 u101 u102 u103 u104 u105 u106 u107 u108 u109 u110 u111 u112 u113 u114 u115 u116 u117 u118 u119 u120 u121 u122 u123 u124 u125 u126 u127 u128 u129 u130 u131 u132 u133 i6 i7 i8 i9 n o HI Ao co i10 q HTP RC HRC ol i11 hol i12 i13 W3 cx W4 rb HER i14 W5 i15 k0 i16 i17 u148 u149 u150 u151 u152 u153 u154 u155 u156 u157 u158 u159 u160 u161 u162 u163 u164 u165 i18 i19 i20 cF cG gf i21 i22 W6 gg W7 bs ms HWB HML HLX HLR HLS i23 W8 Bx ex W9 xq W10 By ey i24 W11 Bs es i25 i26 W12 yq B i27 r0 y0 HGX HGY HBS HMS HR0 HY0 hn1 hn2 i28 u185 u186 u187 u188 u189 u190 u191 u192 u193 u194 i29 i30 i31 rc SA sc TA tc r1 HR1 W14 i32 i33 i34 i35 i36 i37 u195 u196 u197 u198 u199 u200 u201 u202 u203 u204 i38 i39 i40 RB rd SB sd TB td y1 HGY1 W15 h2b HS2 i41 e0 e1 e4 C i42 i43 i44 i45 nq W16 i46 i47 m HM HM63 gk wr u12 u27 u235 u236 u237 u238 u239 u240 u241 u242 u243 u244 u245 u246 u247 u248 u249 u250 u251 u252 u253 u254 u255 u256 u257 u258 u259 u260 u261 u262 u263 u264 u265 u266 u267 u268 u269 u270 u271 u272 u273 u274 u275 u276 u277 u278 u279 u280 u281 u282 u283 u284 u285 u286 u287 u288 u289 u290 u291 u292 u293 u294 u295 u296 u297 u298 u299 u300 i48 i49 i50 k hg hk hkz hkl b1 o1 i51 HQX i52 i53 i54 i55 i56 v lc gr i57 i58 hvlz W17 HO17 pb rv D e9 j0 j1 g0 g1 g2 g3 g4 g5 g6 g7 g8 g9 d0 d1 d2 hv20 mixed i59 q1 h hh q3 q4 d3 d4 d5 d6 q5
                                  exact CUTB.out
                                · obtain ⟨h, hh⟩ : ∃ h : Nat, (lc : Int) / 2 = (h : Int) := ⟨lc / 2, by omega⟩
                                  clear CUTB
                                  have q3 : (lc : Int).tmod 2 = (lc : Int) % 2 := Int.tmod_eq_emod_of_nonneg (by omega)
                                  have q4 : (lc : Int).tdiv 2 = (h : Int) := by rw [Int.tdiv_eq_ediv_of_nonneg (by omega)]; exact hh
                                  rw [q1] at q3
                                  have d3 : decide ((len3 : Int) ≤ (h : Int)) = false := by simp; omega
                                  have d4 : ¬ (len3 : Int) ≤ (h : Int) := by omega
                                  have d5 : decide (len3 ≤ h) = false := by simp; omega
                                  have d6 : h < len3 := by omega
                                  have q5 : IntKind.i64.wrap (h : Int) = (h : Int) := by rw [IntKind.wrap_i64] <;> omega
                                  clear hpr hcr17 a0 a1 x4 z0 z1 z2 z3 z4 z5 z6 z7 q2 p2 hvl
                                  rename_i i1 i2 i3 i4 i5 i6 i7 i8 i9 i10 i11 i12 i13 i14 i15 i16 i17 i18 i19 i20 i21 i22 i23 i24 i25 i26 i27 i28 i29 i30 i31 i32 i33 i34 i35 i36 i37 i38 i39 i40 i41 i42 i43 i44 i45 i46 i47 i48 i49 i50 i51 i52 i53 i54 i55 i56 i57 i58 i59
                                  revert a2 cap2 z2 a3 len3 cap3 z3 a4 len4 cap4 z4 a5 len5 cap5 w x yr ys i0 A1 c1 A2 c2 code bt mach mt n1 n2 HN1 HN2 e2 i1 e3 HXW HRW HSW HD i2 W0 W1 W2 hr9 hs9 HQ HB1 HB2 i3 i4 i5 u16 u51 u52 u53 u54 u55 u56 u57 u58 u59 u60 u61 u62 u63 u64 u65 u66 u67 u68 u69 u70 u71 u72 u73 u74 u75 u76 u77 u78 u79 u80 u81 u82 u83 u84 u85 u86 u87 u88 u89 u90 u91 u92 u93 u94 u95 u96 u97 u98 u99 u100 u101 u102 u103 u104 u105 u106 u107 u108 u109 u110 u111 u112 u113 u114 u115 u116 u117 u118 u119 u120 u121 u122 u123 u124 u125 u126 u127 u128 u129 u130 u131 u132 u133 i6 i7 i8 i9 n o HI Ao co i10 q HTP RC HRC ol i11 hol i12 i13 W3 cx W4 rb HER i14 W5 i15 k0 i16 i17 u148 u149 u150 u151 u152 u153 u154 u155 u156 u157 u158 u159 u160 u161 u162 u163 u164 u165 i18 i19 i20 cF cG gf i21 i22 W6 gg W7 bs ms HWB HML HLX HLR HLS i23 W8 Bx ex W9 xq W10 By ey i24 W11 Bs es i25 i26 W12 yq B i27 r0 y0 HGX HGY HBS HMS HR0 HY0 hn1 hn2 i28 u185 u186 u187 u188 u189 u190 u191 u192 u193 u194 i29 i30 i31 rc SA sc TA tc r1 HR1 W14 i32 i33 i34 i35 i36 i37 u195 u196 u197 u198 u199 u200 u201 u202 u203 u204 i38 i39 i40 RB rd SB sd TB td y1 HGY1 W15 h2b HS2 i41 e0 e1 e4 C i42 i43 i44 i45 nq W16 i46 i47 m HM HM63 gk wr u12 u27 u235 u236 u237 u238 u239 u240 u241 u242 u243 u244 u245 u246 u247 u248 u249 u250 u251 u252 u253 u254 u255 u256 u257 u258 u259 u260 u261 u262 u263 u264 u265 u266 u267 u268 u269 u270 u271 u272 u273 u274 u275 u276 u277 u278 u279 u280 u281 u282 u283 u284 u285 u286 u287 u288 u289 u290 u291 u292 u293 u294 u295 u296 u297 u298 u299 u300 i48 i49 i50 k hg hk hkz hkl b1 o1 i51 HQX i52 i53 i54 i55 i56 v lc gr i57 i58 hvlz W17 HO17 pb rv D e9 j0 j1 g0 g1 g2 g3 g4 g5 g6 g7 g8 g9 d0 d1 d2 hv20 mixed i59 q1 h hh q3 q4 d3 d4 d5 d6 q5
                                  exact CUTC.out
                              · have hkz : ¬ (k : Int) < (m : Int) := by omega
                                clear CUTB CUTC
                                have HB9 := Lib.hid (HWB.out.trans (HO.out.blw.mono (by have := HQX.out.lb; omega)))
                                go_wp2
                                go_ret
                                exact ⟨rfl, HB9.out⟩
            · have her2 : (RC.err != 0) = true := by simp [her]
              clear CUTB CUTC
              have HB5 := Lib.hid HK4.out.k.blw
              clear her
              go_wp2
              go_ret
              exact ⟨rfl, HB5.out⟩
  · have e2 : ((len2 : Int) != 20) = true := by simp; omega
    clear CUTA CUTB CUTC
    clear w2 w3 w4 w5 hxw h2 hrw h3 hsw h4 q2
    go_enter Try.func4, Try.ntmps4
    go_upto_region 1 with fail
    generalize ((w.alloc (.cells #[.slice A1 n1 c1, .int .i64 bt.kind, .int .i64 bt.a, .int .i64 bt.to, .int .i64 bt.el] 26)).alloc (.cells #[.slice A2 n2 c2, .int .i64 mt.kind, .int .i64 mt.a, .int .i64 mt.to, .int .i64 mt.el] 29)) = W0 at *
    go_wp2_with fail
    refine (AW.out _).mono ?_
    rintro e W1 ⟨rfl, hb⟩
    have HK1 := Lib.hid (HK0.out.next hb)
    clear hb HK0
    go_wp2_with fail
    refine (AW.out _).mono ?_
    rintro e W9 ⟨rfl, hb⟩
    have HZ := Lib.hid (HK1.out.next hb).blw
    clear hb
    go_wp2
    go_ret
    exact ⟨rfl, HZ.out⟩

end Go.Proofs.Ytabebkkicpcjcaa
