/-
  The walk of the statement on subsets.
-/
import Derived.Test.YtgnlglmhcojaiaaPsLawD
namespace Go.Proofs.Ytgnlglmhcojaiaa
open Go.RowKit
set_option linter.unusedVariables false

theorem same_lsB {w : World} {A A' : Option Addr} {n m c c' : Nat} {l r : List Pr} (h : LS w A n c l) (k : LS w A' m c' r) : Calls Try.prog 15 #[.slice A n c, .slice A' m c'] w fun e w' => e = .returned (.bool (decide (l = r))) ∧ Below w.heap.size w w' :=
  (same_ls h k).mono fun _ _ ⟨a, b⟩ => ⟨a, b.below⟩

theorem subP_iff {a b : List Pr} : subP a b = true ↔ ∀ x ∈ a, x ∈ b := by simp [subP]
theorem sub_facts (a b c : List Pr) :
    subP (mkP a) (mkP (mkP a ++ mkP b)) = true ∧ subP (mkP b) (mkP (mkP a ++ mkP b)) = true ∧ subP (mkP c) (mkP (mkP a ++ mkP b)) = subP (mkP (mkP c ++ mkP (mkP a ++ mkP b))) (mkP (mkP a ++ mkP b)) ∧
    (subP (mkP a) (mkP b) = true → subP (mkP b) (mkP c) = true → subP (mkP a) (mkP c) = true) ∧ decide (mkP a = mkP b) = (subP (mkP a) (mkP b) && subP (mkP b) (mkP a)) := by
  refine ⟨subP_iff.2 fun x hx => mem_mkP.2 (List.mem_append.2 (.inl hx)), subP_iff.2 fun x hx => mem_mkP.2 (List.mem_append.2 (.inr hx)), ?_, fun h k => subP_iff.2 fun x hx => subP_iff.1 k x (subP_iff.1 h x hx), ?_⟩
  · rw [Bool.eq_iff_iff, subP_iff, subP_iff]
    constructor
    · intro h x hx
      rcases List.mem_append.1 (mem_mkP.1 hx) with h1 | h1
      · exact h x h1
      · exact h1
    · intro h x hx
      exact h x (mem_mkP.2 (List.mem_append.2 (.inl hx)))
  · rw [Bool.eq_iff_iff, decide_eq_true_iff, Bool.and_eq_true, subP_iff, subP_iff]
    constructor
    · intro h
      rw [h]
      exact ⟨fun _ h => h, fun _ h => h⟩
    · rintro ⟨h, k⟩
      exact srt_ext (mkP_srt a) (mkP_srt b) fun q => ⟨h q, k q⟩

set_option maxRecDepth 100000 in
set_option maxHeartbeats 8000000 in
theorem subsets_big (l0 l1 l2 : Nat) (A0 A1 A2 : Option Addr) (c0 c1 c2 : Nat) (w : World) (h : 40 < l0 ∨ 40 < l1 ∨ 40 < l2) :
    Calls Try.prog 7 #[.slice A0 l0 c0, .slice A1 l1 c1, .slice A2 l2 c2] w fun e w' => e = .returned (.bool true) ∧ Below w.heap.size w w' := by
  have AW := Lib.hid fun W => awake_any W
  go_enter Try.func7, Try.ntmps7
  by_cases h0 : 40 < l0
  · have z0 : (40 : Int) < (l0 : Int) := by omega
    clear h
    go_wp2_with fail
    refine (AW.out _).mono ?_
    rintro e W1 ⟨rfl, hb⟩
    have HB := Lib.hid hb
    clear hb
    go_wp2_with fail
    refine (AW.out _).mono ?_
    rintro e W2 ⟨rfl, hb⟩
    have HB2 := Lib.hid (HB.out.trans (hb.mono HB.out.size))
    clear hb
    go_wp2
    go_ret
    exact ⟨rfl, HB2.out⟩
  · have z0 : ¬ (40 : Int) < (l0 : Int) := by omega
    by_cases h1 : 40 < l1
    · have z1 : (40 : Int) < (l1 : Int) := by omega
      clear h
      go_wp2_with fail
      refine (AW.out _).mono ?_
      rintro e W1 ⟨rfl, hb⟩
      have HB := Lib.hid hb
      clear hb
      go_wp2_with fail
      refine (AW.out _).mono ?_
      rintro e W2 ⟨rfl, hb⟩
      have HB2 := Lib.hid (HB.out.trans (hb.mono HB.out.size))
      clear hb
      go_wp2
      go_ret
      exact ⟨rfl, HB2.out⟩
    · have z1 : ¬ (40 : Int) < (l1 : Int) := by omega
      have z2 : (40 : Int) < (l2 : Int) := by omega
      clear h
      go_wp2_with fail
      refine (AW.out _).mono ?_
      rintro e W1 ⟨rfl, hb⟩
      have HB := Lib.hid hb
      clear hb
      go_wp2_with fail
      refine (AW.out _).mono ?_
      rintro e W2 ⟨rfl, hb⟩
      have HB2 := Lib.hid (HB.out.trans (hb.mono HB.out.size))
      clear hb
      go_wp2
      go_ret
      exact ⟨rfl, HB2.out⟩

set_option maxRecDepth 100000 in
set_option maxHeartbeats 16000000 in
theorem PairsetSubsets_walk (a0 : Option Addr) (len0 cap0 : Nat) (a1 : Option Addr) (len1 cap1 : Nat) (a2 : Option Addr) (len2 cap2 : Nat) (w : World) (w0 : IsPrs w a0 len0 cap0) (w1 : IsPrs w a1 len1 cap1) (w2 : IsPrs w a2 len2 cap2) :
    Calls Try.prog 7 #[.slice a0 len0 cap0, .slice a1 len1 cap1, .slice a2 len2 cap2] w fun e w' => e = .returned (.bool true) ∧ Below w.heap.size w w' := by
  obtain ⟨la, hla, _, hsa, hca, hma⟩ := w0
  obtain ⟨lb, hlb, _, hsb, hcb, hmb⟩ := w1
  obtain ⟨lc, hlc, _, hsc, hcc, hmc⟩ := w2
  by_cases hbig : 40 < len0 ∨ 40 < len1 ∨ 40 < len2
  · exact subsets_big _ _ _ _ _ _ _ _ _ w hbig
  · have n0 : len0 ≤ 40 := by omega
    have n1 : len1 ≤ 40 := by omega
    have n2 : len2 ≤ 40 := by omega
    have z0 : ¬ (40 : Int) < (len0 : Int) := by omega
    have z1 : ¬ (40 : Int) < (len1 : Int) := by omega
    have z2 : ¬ (40 : Int) < (len2 : Int) := by omega
    have AW := Lib.hid fun W => awake_any W
    have HA := Lib.hid (LS.in hla hsa hca hma (by omega))
    have HB := Lib.hid (LS.in hlb hsb hcb hmb (by omega))
    have HC := Lib.hid (LS.in hlc hsc hcc hmc (by omega))
    obtain ⟨f1, f2, f3, f4, f5⟩ := sub_facts la lb lc
    have sx := Lib.hid (mkP_srt la)
    have sy := Lib.hid (mkP_srt lb)
    have sz := Lib.hid (mkP_srt lc)
    have su := Lib.hid (mkP_srt (mkP la ++ mkP lb))
    have lx : (mkP la).length ≤ 40 := Nat.le_trans (mkP_len _) (by omega)
    have ly : (mkP lb).length ≤ 40 := Nat.le_trans (mkP_len _) (by omega)
    have lz : (mkP lc).length ≤ 40 := Nat.le_trans (mkP_len _) (by omega)
    have lu : (mkP (mkP la ++ mkP lb)).length ≤ 80 := Nat.le_trans (mkP_len _) (by simp; omega)
    clear hsa hca hma hsb hcb hmb hsc hcc hmc hla hlb hlc
    go_enter Try.func7, Try.ntmps7
    go_wp2_with fail
    refine (AW.out _).mono ?_
    rintro e W1 ⟨rfl, hb⟩
    have HW1 := Lib.hid hb
    have HA1 := Lib.hid (HA.out.below hb)
    have HB1 := Lib.hid (HB.out.below hb)
    have HC1 := Lib.hid (HC.out.below hb)
    clear hb HA HB HC AW
    have C := Lib.hid (pmake_ls HA1.out)
    go_wp2_with fail
    refine C.out.mono ?_
    rintro e W2 ⟨Ax, nx, cx, rfl, hP, hL⟩
    have HX2 := Lib.hid hL
    have HB2 := Lib.hid (HB1.out.below hP.blw)
    have HC2 := Lib.hid (HC1.out.below hP.blw)
    have HW2 := Lib.hid (HW1.out.trans (hP.blw.mono HW1.out.size))
    clear hP hL C HA1 HB1 HC1 HW1
    have C := Lib.hid (pmake_ls HB2.out)
    go_wp2_with fail
    refine C.out.mono ?_
    rintro e W3 ⟨Ay, ny, cy, rfl, hP, hL⟩
    have HY3 := Lib.hid hL
    have HX3 := Lib.hid (HX2.out.below hP.blw)
    have HC3 := Lib.hid (HC2.out.below hP.blw)
    have HW3 := Lib.hid (HW2.out.trans (hP.blw.mono HW2.out.size))
    clear hP hL C HB2 HC2 HX2 HW2
    have C := Lib.hid (pmake_ls HC3.out)
    go_wp2_with fail
    refine C.out.mono ?_
    rintro e W4 ⟨Az, nz, cz, rfl, hP, hL⟩
    have HZ4 := Lib.hid hL
    have HX4 := Lib.hid (HX3.out.below hP.blw)
    have HY4 := Lib.hid (HY3.out.below hP.blw)
    have HW4 := Lib.hid (HW3.out.trans (hP.blw.mono HW3.out.size))
    clear hP hL C HC3 HX3 HY3 HW3
    have C := Lib.hid (punion_ls HX4.out HY4.out sx.out sy.out (by have := HX4.out.len; have := HY4.out.len; omega))
    go_wp2_with fail
    refine C.out.mono ?_
    rintro e W5 ⟨Au, nu, cu, rfl, hP, hL⟩
    have HQ5 : Hid (Q4 W5 Ax nx cx (mkP la) Ay ny cy (mkP lb) Az nz cz (mkP lc) Au nu cu (mkP (mkP la ++ mkP lb))) := ⟨HX4.out.below hP.blw, HY4.out.below hP.blw, HZ4.out.below hP.blw, hL⟩
    have HW5 := Lib.hid (HW4.out.trans (hP.blw.mono HW4.out.size))
    have hnz : nz + nu ≤ 1000 := by have := HQ5.out.c.len; have := HQ5.out.d.len; omega
    clear hP hL C HZ4 HX4 HY4 HW4 lx ly lz lu
    have T1 := Lib.hid fun W (h : Q4 W Ax nx cx (mkP la) Ay ny cy (mkP lb) Az nz cz (mkP lc) Au nu cu (mkP (mkP la ++ mkP lb))) => psubset_ls h.a h.d sx.out su.out
    have T2 := Lib.hid fun W (h : Q4 W Ax nx cx (mkP la) Ay ny cy (mkP lb) Az nz cz (mkP lc) Au nu cu (mkP (mkP la ++ mkP lb))) => psubset_ls h.b h.d sy.out su.out
    have T3 := Lib.hid fun W (h : Q4 W Ax nx cx (mkP la) Ay ny cy (mkP lb) Az nz cz (mkP lc) Au nu cu (mkP (mkP la ++ mkP lb))) => psubset_ls h.c h.d sz.out su.out
    have T4 := Lib.hid fun W (h : Q4 W Ax nx cx (mkP la) Ay ny cy (mkP lb) Az nz cz (mkP lc) Au nu cu (mkP (mkP la ++ mkP lb))) => punion_ls h.c h.d sz.out su.out hnz
    have T5 := Lib.hid fun W (h : Q4 W Ax nx cx (mkP la) Ay ny cy (mkP lb) Az nz cz (mkP lc) Au nu cu (mkP (mkP la ++ mkP lb))) A n c (k : LS W A n c (mkP (mkP lc ++ mkP (mkP la ++ mkP lb)))) => psubset_ls k h.d (mkP_srt _) su.out
    have T6 := Lib.hid fun W (h : Q4 W Ax nx cx (mkP la) Ay ny cy (mkP lb) Az nz cz (mkP lc) Au nu cu (mkP (mkP la ++ mkP lb))) => psubset_ls h.a h.b sx.out sy.out
    have T7 := Lib.hid fun W (h : Q4 W Ax nx cx (mkP la) Ay ny cy (mkP lb) Az nz cz (mkP lc) Au nu cu (mkP (mkP la ++ mkP lb))) => psubset_ls h.b h.c sy.out sz.out
    have T8 := Lib.hid fun W (h : Q4 W Ax nx cx (mkP la) Ay ny cy (mkP lb) Az nz cz (mkP lc) Au nu cu (mkP (mkP la ++ mkP lb))) => psubset_ls h.a h.c sx.out sz.out
    have T9 := Lib.hid fun W (h : Q4 W Ax nx cx (mkP la) Ay ny cy (mkP lb) Az nz cz (mkP lc) Au nu cu (mkP (mkP la ++ mkP lb))) => same_lsB h.a h.b
    have T10 := Lib.hid fun W (h : Q4 W Ax nx cx (mkP la) Ay ny cy (mkP lb) Az nz cz (mkP lc) Au nu cu (mkP (mkP la ++ mkP lb))) => psubset_ls h.b h.a sy.out sx.out
    rw [f1] at T1
    rw [f2] at T2
    rw [← f3] at T5
    rw [f5] at T9
    clear f1 f2 f3 f5 sx sy sz su
    generalize subP (mkP lc) (mkP (mkP la ++ mkP lb)) = s3 at *
    generalize subP (mkP la) (mkP lb) = s6 at *
    generalize subP (mkP lb) (mkP lc) = s7 at *
    generalize subP (mkP la) (mkP lc) = s8 at *
    generalize subP (mkP lb) (mkP la) = s10 at *
    go_wp2_with fail
    refine ((T1.out _ HQ5.out)).mono ?_
    rintro e W6 ⟨rfl, hb⟩
    have HQ6 := Lib.hid (HQ5.out.below hb)
    have HW6 := Lib.hid (HW5.out.trans (hb.mono HW5.out.size))
    clear hb HQ5 HW5
    go_wp2_with fail
    refine ((T2.out _ HQ6.out)).mono ?_
    rintro e W7 ⟨rfl, hb⟩
    have HQ7 := Lib.hid (HQ6.out.below hb)
    have HW7 := Lib.hid (HW6.out.trans (hb.mono HW6.out.size))
    clear hb HQ6 HW6
    go_wp2_with fail
    refine ((T3.out _ HQ7.out)).mono ?_
    rintro e W8 ⟨rfl, hb⟩
    have HQ8 := Lib.hid (HQ7.out.below hb)
    have HW8 := Lib.hid (HW7.out.trans (hb.mono HW7.out.size))
    clear hb HQ7 HW7
    go_wp2_with fail
    refine (T4.out _ HQ8.out).mono ?_
    rintro e W9 ⟨A, n, c, rfl, hP, hL⟩
    have HQ9 := Lib.hid (HQ8.out.below hP.blw)
    have HW9 := Lib.hid (HW8.out.trans (hP.blw.mono HW8.out.size))
    have D := Lib.hid (T5.out _ HQ9.out _ _ _ hL)
    clear hP hL HQ8 HW8
    go_wp2_with fail
    refine (D.out).mono ?_
    rintro e W10 ⟨rfl, hb⟩
    have HQ10 := Lib.hid (HQ9.out.below hb)
    have HW10 := Lib.hid (HW9.out.trans (hb.mono HW9.out.size))
    clear hb HQ9 HW9
    have hs3 : (s3 != s3) = false := by simp
    have T6b := Lib.hid fun W (h : Q4 W Ax nx cx (mkP la) Ay ny cy (mkP lb) Az nz cz (mkP lc) Au nu cu (mkP (mkP la ++ mkP lb))) => T6.out W h
    cases s6
    · rw [Bool.false_and] at T9
      go_wp2_with fail
      refine ((T6.out _ HQ10.out)).mono ?_
      rintro e W11 ⟨rfl, hb⟩
      have HQ11 := Lib.hid (HQ10.out.below hb)
      have HW11 := Lib.hid (HW10.out.trans (hb.mono HW10.out.size))
      clear hb HQ10 HW10
      go_wp2_with fail
      refine ((T9.out _ HQ11.out)).mono ?_
      rintro e W12 ⟨rfl, hb⟩
      have HQ12 := Lib.hid (HQ11.out.below hb)
      have HW12 := Lib.hid (HW11.out.trans (hb.mono HW11.out.size))
      clear hb HQ11 HW11
      go_wp2_with fail
      refine ((T6b.out _ HQ12.out)).mono ?_
      rintro e W13 ⟨rfl, hb⟩
      have HQ13 := Lib.hid (HQ12.out.below hb)
      have HW13 := Lib.hid (HW12.out.trans (hb.mono HW12.out.size))
      clear hb HQ12 HW12
      go_wp2
      go_ret
      exact ⟨rfl, HW13.out⟩
    · rw [Bool.true_and] at T9
      have F4 := Lib.hid (f4 rfl)
      clear f4
      go_wp2_with fail
      refine ((T6.out _ HQ10.out)).mono ?_
      rintro e W11 ⟨rfl, hb⟩
      have HQ11 := Lib.hid (HQ10.out.below hb)
      have HW11 := Lib.hid (HW10.out.trans (hb.mono HW10.out.size))
      clear hb HQ10 HW10
      cases s7
      · clear F4
        go_wp2_with fail
        refine ((T7.out _ HQ11.out)).mono ?_
        rintro e W12 ⟨rfl, hb⟩
        have HQ12 := Lib.hid (HQ11.out.below hb)
        have HW12 := Lib.hid (HW11.out.trans (hb.mono HW11.out.size))
        clear hb HQ11 HW11
        have hs10 : (s10 == s10) = true := by simp
        go_wp2_with fail
        refine ((T9.out _ HQ12.out)).mono ?_
        rintro e W13 ⟨rfl, hb⟩
        have HQ13 := Lib.hid (HQ12.out.below hb)
        have HW13 := Lib.hid (HW12.out.trans (hb.mono HW12.out.size))
        clear hb HQ12 HW12
        go_wp2_with fail
        refine ((T6b.out _ HQ13.out)).mono ?_
        rintro e W14 ⟨rfl, hb⟩
        have HQ14 := Lib.hid (HQ13.out.below hb)
        have HW14 := Lib.hid (HW13.out.trans (hb.mono HW13.out.size))
        clear hb HQ13 HW13
        go_wp2_with fail
        refine ((T10.out _ HQ14.out)).mono ?_
        rintro e W15 ⟨rfl, hb⟩
        have HQ15 := Lib.hid (HQ14.out.below hb)
        have HW15 := Lib.hid (HW14.out.trans (hb.mono HW14.out.size))
        clear hb HQ14 HW14
        go_wp2
        go_ret
        exact ⟨by simp, HW15.out⟩
      · obtain rfl := F4.out rfl
        clear F4
        go_wp2_with fail
        refine ((T7.out _ HQ11.out)).mono ?_
        rintro e W12 ⟨rfl, hb⟩
        have HQ12 := Lib.hid (HQ11.out.below hb)
        have HW12 := Lib.hid (HW11.out.trans (hb.mono HW11.out.size))
        clear hb HQ11 HW11
        go_wp2_with fail
        refine ((T8.out _ HQ12.out)).mono ?_
        rintro e W13 ⟨rfl, hb⟩
        have HQ13 := Lib.hid (HQ12.out.below hb)
        have HW13 := Lib.hid (HW12.out.trans (hb.mono HW12.out.size))
        clear hb HQ12 HW12
        have hs10 : (s10 == s10) = true := by simp
        go_wp2_with fail
        refine ((T9.out _ HQ13.out)).mono ?_
        rintro e W14 ⟨rfl, hb⟩
        have HQ14 := Lib.hid (HQ13.out.below hb)
        have HW14 := Lib.hid (HW13.out.trans (hb.mono HW13.out.size))
        clear hb HQ13 HW13
        go_wp2_with fail
        refine ((T6b.out _ HQ14.out)).mono ?_
        rintro e W15 ⟨rfl, hb⟩
        have HQ15 := Lib.hid (HQ14.out.below hb)
        have HW15 := Lib.hid (HW14.out.trans (hb.mono HW14.out.size))
        clear hb HQ14 HW14
        go_wp2_with fail
        refine ((T10.out _ HQ15.out)).mono ?_
        rintro e W16 ⟨rfl, hb⟩
        have HQ16 := Lib.hid (HQ15.out.below hb)
        have HW16 := Lib.hid (HW15.out.trans (hb.mono HW15.out.size))
        clear hb HQ15 HW15
        go_wp2
        go_ret
        exact ⟨by simp, HW16.out⟩

end Go.Proofs.Ytgnlglmhcojaiaa
