/-
  The walk of the statement on the reference.
-/
import Derived.Test.YtcnkkpnfijihbaaTrAwake
import Derived.Test.YtcnkkpnfijihbaaTrRef
import Derived.Test.YtcnkkpnfijihbaaPsIn
namespace Go.Proofs.Ytcnkkpnfijihbaa
open Go.RowKit
set_option linter.unusedVariables false

/-- A list that is seen, carried from world to world. -/
structure XK (w : World) (A : Option Addr) (n c : Nat) (l : List Pr) (W : World) : Prop where
  blw : Below w.heap.size w W
  l : LS W A n c l
theorem XK.below {w W W' : World} {A : Option Addr} {n c : Nat} {l : List Pr} (h : XK w A n c l W) (hb : Below W.heap.size W W') : XK w A n c l W' := ⟨h.blw.trans (hb.mono h.blw.size), h.l.below hb⟩

set_option maxRecDepth 100000 in
set_option maxHeartbeats 16000000 in
theorem TransferMatchesReference_walk (a0 : Option Addr) (len0 cap0 : Nat) (a1 a2 a3 a4 : Int) (w : World) (w0 : IsPrs w a0 len0 cap0) (w1 : (Lit.int .i64 a1).wf = true) (w2 : (Lit.int .i64 a2).wf = true) (w3 : (Lit.int .i64 a3).wf = true) (w4 : (Lit.int .i64 a4).wf = true) :
    Calls Try.prog 3 #[.slice a0 len0 cap0, .int .i64 a1, .int .i64 a2, .int .i64 a3, .int .i64 a4] w fun e w' => e = .returned (.bool true) ∧ Below w.heap.size w w' := by
  obtain ⟨l, rfl, hwf, hs, hlc, hcm⟩ := w0
  have AW := Lib.hid fun W => awake_any W
  clear w1 w2 w3 w4 hwf
  by_cases h60 : 60 < l.length
  · have hz : (60 : Int) < (l.length : Int) := by omega
    clear hs hlc hcm
    go_enter Try.func3, Try.ntmps3
    go_wp2_with fail
    refine (AW.out _).mono ?_
    rintro e W1 ⟨rfl, hb⟩
    have HB := Lib.hid ((Below.refl w.heap.size w).trans (hb.mono (Below.refl w.heap.size w).size))
    clear hb
    go_wp2_with fail
    refine (AW.out _).mono ?_
    rintro e W2 ⟨rfl, hb⟩
    have HB2 := Lib.hid (HB.out.trans (hb.mono HB.out.size))
    clear hb
    go_wp2
    go_ret
    exact ⟨rfl, HB2.out⟩
  · have hz : ¬ (60 : Int) < (l.length : Int) := by omega
    have HL0 := Lib.hid (LS.in rfl hs hlc hcm (by omega))
    have hx : (mkP l).length ≤ 60 := Nat.le_trans (mkP_len _) (by omega)
    have HSX := Lib.hid (mkP_srt l)
    clear hs hlc hcm h60
    go_enter Try.func3, Try.ntmps3
    go_wp2_with fail
    refine (AW.out _).mono ?_
    rintro e W1 ⟨rfl, hb⟩
    have HB1 := Lib.hid hb
    have C := Lib.hid (rmake_ls (HL0.out.below hb))
    clear hb HL0 AW
    go_wp2_with fail
    refine C.out.mono ?_
    rintro e W2 ⟨A, n, c, rfl, hP, hL⟩
    have HK : Hid (XK w A n c (mkP l) W2) := ⟨HB1.out.trans (hP.blw.mono HB1.out.size), hL⟩
    have hn : n ≤ 500 := by have := hL.len; omega
    clear hP hL C HB1 hx
    generalize mkP l = x at *
    have C := Lib.hid (copy_ls a1 a2 HK.out.l HSX.out hn)
    go_wp2_with fail
    refine C.out.mono ?_
    rintro e W3 ⟨A1, n1, c1, rfl, hP, hL⟩
    have HK1 := Lib.hid (HK.out.below hP.blw)
    have HL1 := Lib.hid hL
    clear hP hL C HK
    have C := Lib.hid (rcopy_ls a1 a2 HK1.out.l HSX.out hn)
    go_wp2_with fail
    refine C.out.mono ?_
    rintro e W4 ⟨A2, n2, c2, rfl, hP, hL⟩
    have HK2 := Lib.hid (HK1.out.below hP.blw)
    have D := Lib.hid (same_lsB (HL1.out.below hP.blw) hL)
    rw [show decide ((cpP x a1 a2) = (cpP x a1 a2)) = true from decide_eq_true rfl] at D
    clear hP hL C HK1 HL1
    go_wp2_with fail
    refine D.out.mono ?_
    rintro e W5 ⟨rfl, hb⟩
    have HK3 := Lib.hid (HK2.out.below hb)
    clear hb D HK2
    have C := Lib.hid (move_ls a3 a4 HK3.out.l HSX.out hn)
    go_wp2_with fail
    refine C.out.mono ?_
    rintro e W6 ⟨A1, n1, c1, rfl, hP, hL⟩
    have HK1 := Lib.hid (HK3.out.below hP.blw)
    have HL1 := Lib.hid hL
    clear hP hL C HK3
    have C := Lib.hid (rmove_ls a3 a4 HK1.out.l HSX.out hn)
    go_wp2_with fail
    refine C.out.mono ?_
    rintro e W7 ⟨A2, n2, c2, rfl, hP, hL⟩
    have HK2 := Lib.hid (HK1.out.below hP.blw)
    have D := Lib.hid (same_lsB (HL1.out.below hP.blw) hL)
    rw [show decide ((mvP x a3 a4) = (mvP x a3 a4)) = true from decide_eq_true rfl] at D
    clear hP hL C HK1 HL1
    go_wp2_with fail
    refine D.out.mono ?_
    rintro e W8 ⟨rfl, hb⟩
    have HK4 := Lib.hid (HK2.out.below hb)
    clear hb D HK2
    have C := Lib.hid (define_ls a1 a3 HK4.out.l HSX.out hn)
    go_wp2_with fail
    refine C.out.mono ?_
    rintro e W9 ⟨A1, n1, c1, rfl, hP, hL⟩
    have HK1 := Lib.hid (HK4.out.below hP.blw)
    have HL1 := Lib.hid hL
    clear hP hL C HK4
    have C := Lib.hid (rdefine_ls a1 a3 HK1.out.l hn)
    go_wp2_with fail
    refine C.out.mono ?_
    rintro e W10 ⟨A2, n2, c2, rfl, hP, hL⟩
    have HK2 := Lib.hid (HK1.out.below hP.blw)
    have D := Lib.hid (same_lsB (HL1.out.below hP.blw) hL)
    rw [show decide ((dfP x a1 a3) = (dfP x a1 a3)) = true from decide_eq_true rfl] at D
    clear hP hL C HK1 HL1
    go_wp2_with fail
    refine D.out.mono ?_
    rintro e W11 ⟨rfl, hb⟩
    have HK5 := Lib.hid (HK2.out.below hb)
    clear hb D HK2
    go_wp2
    go_ret
    exact ⟨rfl, HK5.out.blw⟩

end Go.Proofs.Ytcnkkpnfijihbaa
