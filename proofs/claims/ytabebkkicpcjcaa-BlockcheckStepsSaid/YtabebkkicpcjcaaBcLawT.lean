/-
  The walk of the statement on the steps.
-/
import Derived.Test.YtabebkkicpcjcaaPk7
namespace Go.Proofs.Ytabebkkicpcjcaa
open Go.RowKit
set_option linter.unusedVariables false

set_option maxRecDepth 100000 in
set_option maxHeartbeats 16000000 in
theorem BlockcheckSteps_walk (a0 a1 : Array Value) (a2 : Option Addr) (len2 cap2 : Nat) (a3 a4 a5 : Int) (w : World) (w0 : IsBlk w a0) (w1 : IsMBlk w a1) (w2 : IsPrs w a2 len2 cap2) (w3 : (Lit.int .i64 a3).wf = true) (w4 : (Lit.int .i64 a4).wf = true) (w5 : (Lit.int .i64 a5).wf = true) :
    Calls Try.prog 6 #[.agg a0, .agg a1, .slice a2 len2 cap2, .int .i64 a3, .int .i64 a4, .int .i64 a5] w fun e w' => e = .returned (.bool true) ∧ Below w.heap.size w w' := by
  obtain ⟨l, rfl, hwf, hs, hlc, hcm⟩ := w2
  obtain ⟨y1, A1, c1, rfl, hc1, hm1, hi1, hy1⟩ := w0
  obtain ⟨y2, A2, c2, rfl, hc2, hm2, hi2, hy2⟩ := w1
  obtain ⟨code, bt⟩ := y1
  obtain ⟨mach, mt⟩ := y2
  dsimp only at *
  obtain ⟨n1, hn1⟩ : ∃ n, code.length = n := ⟨_, rfl⟩
  obtain ⟨n2, hn2⟩ : ∃ n, mach.length = n := ⟨_, rfl⟩
  rw [hn1] at hc1 ⊢
  rw [hn2] at hc2 ⊢
  have AW := Lib.hid fun W => awake_any W
  have HK0 := Lib.hid (BK.start (bt := bt) (mt := mt) ⟨hn1, hc1, hm1, hi1⟩ ⟨hn2, hc2, hm2, hi2⟩)
  have HY1 := Lib.hid hy1
  have HY2 := Lib.hid hy2
  have HN1 := Lib.hid hn1
  have HN2 := Lib.hid hn2
  clear hc1 hm1 hi1 hy1 hc2 hm2 hi2 hy2 hn1 hn2
  clear w3 w4 w5 hwf
  by_cases h60 : 60 < l.length
  · have hz : (60 : Int) < (l.length : Int) := by omega
    clear hs hlc hcm h60
    go_enter Try.func6, Try.ntmps6
    go_upto_region 1 with fail
    generalize ((w.alloc (.cells #[.slice A1 n1 c1, .int .i64 bt.kind, .int .i64 bt.a, .int .i64 bt.to, .int .i64 bt.el] 26)).alloc (.cells #[.slice A2 n2 c2, .int .i64 mt.kind, .int .i64 mt.a, .int .i64 mt.to, .int .i64 mt.el] 29)) = W0 at *
    go_wp2_with fail
    refine (AW.out _).mono ?_
    rintro e W1 ⟨rfl, hb⟩
    have HK1 := Lib.hid (HK0.out.next hb)
    clear hb HK0
    go_wp2_with fail
    refine (AW.out _).mono ?_
    rintro e W9 ⟨rfl, hb⟩
    have HZ := Lib.hid (HK1.out.next hb).blw
    clear hb
    go_wp2
    go_ret
    exact ⟨rfl, HZ.out⟩
  · have hz : ¬ (60 : Int) < (l.length : Int) := by omega
    have HL0 := Lib.hid (LS.in rfl hs hlc hcm (by omega))
    have hx : (mkP l).length ≤ 60 := Nat.le_trans (mkP_len _) (by omega)
    have HSX := Lib.hid (mkP_srt l)
    clear hs hlc hcm h60
    go_enter Try.func6, Try.ntmps6
    go_upto_region 1 with fail
    have HL1 := Lib.hid (HL0.out.below HK0.out.blw)
    generalize ((w.alloc (.cells #[.slice A1 n1 c1, .int .i64 bt.kind, .int .i64 bt.a, .int .i64 bt.to, .int .i64 bt.el] 26)).alloc (.cells #[.slice A2 n2 c2, .int .i64 mt.kind, .int .i64 mt.a, .int .i64 mt.to, .int .i64 mt.el] 29)) = W0 at *
    go_wp2_with fail
    refine (AW.out _).mono ?_
    rintro e W1 ⟨rfl, hb⟩
    have HK1 := Lib.hid (HK0.out.next hb)
    have HL2 := Lib.hid (HL1.out.below hb)
    clear hb HK0 HL0 HL1
    have b0 := HK1.out.b.cell 0; have b1 := HK1.out.b.cell 1; have b2 := HK1.out.b.cell 2; have b3 := HK1.out.b.cell 3; have b4 := HK1.out.b.cell 4
    have m0 := HK1.out.m.cell 0; have m1 := HK1.out.m.cell 1; have m2 := HK1.out.m.cell 2; have m3 := HK1.out.m.cell 3; have m4 := HK1.out.m.cell 4
    simp only [List.getElem?_toArray, List.getElem?_cons_zero, List.getElem?_cons_succ] at b0 b1 b2 b3 b4 m0 m1 m2 m3 m4
    go_wp2_with fail
    refine (right_any HK1.out.cs HK1.out.ms).mono ?_
    rintro e W2 ⟨b, rfl, hb, hR⟩
    have HK2 := Lib.hid (HK1.out.next hb)
    have HL3 := Lib.hid (HL2.out.below hb)
    clear hb HK1 HL2 b0 b1 b2 b3 b4 m0 m1 m2 m3 m4
    cases b
    · clear hR
      go_wp2_with fail
      refine (AW.out _).mono ?_
      rintro e W9 ⟨rfl, hb⟩
      have HZ := Lib.hid (HK2.out.next hb).blw
      clear hb
      go_wp2
      go_ret
      exact ⟨rfl, HZ.out⟩
    · have HR := Lib.hid (hR rfl)
      clear hR AW
      have C := Lib.hid (rmake_ls HL3.out)
      go_wp2_with fail
      refine C.out.mono ?_
      rintro e W3 ⟨A, n, c, rfl, hP, hL⟩
      have HK3 := Lib.hid (HK2.out.next hP.blw)
      have HL := Lib.hid hL
      clear hP hL C HK2 HL3
      generalize mkP l = x at *
      obtain ⟨nR, nS, _, _, hQ⟩ := HR.out.ok HY1.out.1 HY1.out.2 HY2.out.1 HY2.out.2
      have hln := HL.out.len
      have C := Lib.hid (check_bk (most := a3) HK3.out HL.out HSX.out (by omega) HR.out.n1 HR.out.n2 hQ)
      have HST := Lib.hid (checkE_steps code mach bt mt (tmP bt mt) x a3)
      have HSM := Lib.hid (small_of (most := a3) (ok := tmP bt mt) HSX.out (by omega) hQ)
      rw [HN1.out, HN2.out] at HST
      have hb1 : n1 ≤ 60 := by have := HR.out.n1; have := HN1.out; omega
      have hb2 : n2 ≤ 200 := by have := HR.out.n2; have := HN2.out; omega
      clear hQ HR HY1 HY2 HL HSX
      obtain ⟨r, hr⟩ : ∃ z, checkE code mach bt mt (tmP bt mt) x a3 = z := ⟨_, rfl⟩
      rw [hr] at C HST HSM
      clear hr
      have b0 := HK3.out.b.cell 0; have b1 := HK3.out.b.cell 1; have b2 := HK3.out.b.cell 2; have b3 := HK3.out.b.cell 3; have b4 := HK3.out.b.cell 4
      have m0 := HK3.out.m.cell 0; have m1 := HK3.out.m.cell 1; have m2 := HK3.out.m.cell 2; have m3 := HK3.out.m.cell 3; have m4 := HK3.out.m.cell 4
      simp only [List.getElem?_toArray, List.getElem?_cons_zero, List.getElem?_cons_succ] at b0 b1 b2 b3 b4 m0 m1 m2 m3 m4
      go_wp2_with fail
      refine C.out.mono ?_
      rintro e W4 ⟨A', c', rfl, hP⟩
      have HK4 := Lib.hid (HK3.out.next hP.blw)
      clear hP C HK3 b0 b1 b2 b3 b4 m0 m1 m2 m3 m4
      go_upto_region 5 with fail
      have HRW := Lib.hid (Row.new W4 40 #[.slice A' (r).out.length c', .int .i64 (r).err, .int .i64 ((r).at_ : Int), .int .i64 ((r).steps : Int), .int .i64 ((r).largest : Int)])
      have HK5 := Lib.hid (HK4.out.next ((Below.refl W4.heap.size W4).alloc (Nat.le_refl _) (.cells #[.slice A' (r).out.length c', .int .i64 (r).err, .int .i64 ((r).at_ : Int), .int .i64 ((r).steps : Int), .int .i64 ((r).largest : Int)] 40)))
      generalize W4.alloc (.cells #[.slice A' (r).out.length c', .int .i64 (r).err, .int .i64 ((r).at_ : Int), .int .i64 ((r).steps : Int), .int .i64 ((r).largest : Int)] 40) = W5 at *
      generalize W4.heap.size = rb at *
      clear HK4
      obtain ⟨e1, e2, e3, e4, e5⟩ := HST.out
      obtain ⟨_, s2, s3, _⟩ := HSM.out
      obtain ⟨P, hP⟩ : ∃ z, z = (3 * n2 + n1 + 1) * (r.largest + 1) := ⟨_, rfl⟩
      have hPb : P ≤ 661 * 400001 := by
        rw [hP]
        exact Nat.mul_le_mul (by omega) (by omega)
      have hmul : (3 * (n2 : Int) + (n1 : Int) + 1) * ((r.largest : Int) + 1) = (P : Int) := by
        rw [hP]
        push_cast
        rfl
      rw [← hP] at e1
      have HB5 := Lib.hid HK5.out.blw
      have b0 := HK5.out.b.cell 0; have b1 := HK5.out.b.cell 1; have b2 := HK5.out.b.cell 2; have b3 := HK5.out.b.cell 3; have b4 := HK5.out.b.cell 4
      have m0 := HK5.out.m.cell 0; have m1 := HK5.out.m.cell 1; have m2 := HK5.out.m.cell 2; have m3 := HK5.out.m.cell 3; have m4 := HK5.out.m.cell 4
      simp only [List.getElem?_toArray, List.getElem?_cons_zero, List.getElem?_cons_succ] at b0 b1 b2 b3 b4 m0 m1 m2 m3 m4
      have r0 := HRW.out.cell 0; have r1 := HRW.out.cell 1; have r2 := HRW.out.cell 2; have r3 := HRW.out.cell 3; have r4 := HRW.out.cell 4
      simp only [List.getElem?_toArray, List.getElem?_cons_zero, List.getElem?_cons_succ] at r0 r1 r2 r3 r4
      clear HST HSM HK5 HRW hP
      obtain ⟨o, er, at_, st, la⟩ := r
      dsimp only at *
      have h1 : (0 : Int) ≤ (st : Int) := by omega
      have h2 : (st : Int) ≤ (P : Int) := by omega
      have h3 : (n : Int) ≤ (la : Int) := by omega
      have h4 : (o.length : Int) ≤ (la : Int) := by omega
      have h6 : (0 : Int) ≤ (at_ : Int) := by omega
      have h7 : (at_ : Int) ≤ (n2 : Int) := by omega
      by_cases her : er = 0
      · have h5 := e4 her
        have hea : (er != 0) = false := by simp [her]
        have heb : (er == 0) = true := by simp [her]
        clear e1 e2 e3 e4 e5 her
        go_wp2
        go_ret
        exact ⟨rfl, HB5.out⟩
      · have hea : (er != 0) = true := by simp [her]
        have heb : (er == 0) = false := by simp [her]
        clear e1 e2 e3 e4 e5 her
        go_wp2
        go_ret
        exact ⟨rfl, HB5.out⟩

end Go.Proofs.Ytabebkkicpcjcaa
