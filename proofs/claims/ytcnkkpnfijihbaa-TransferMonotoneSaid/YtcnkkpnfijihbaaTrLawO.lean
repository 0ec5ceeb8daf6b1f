/-
  The walk of the statement on subsets that are transferred.
-/
import Derived.Test.YtcnkkpnfijihbaaTrLawM
namespace Go.Proofs.Ytcnkkpnfijihbaa
open Go.RowKit
set_option linter.unusedVariables false

theorem subP_mis (a b : List Pr) : subP a b = (misP a b).isNone := by
  rw [Bool.eq_iff_iff, subP_iff, Option.isNone_iff_eq_none, misP_none]

set_option maxRecDepth 100000 in
set_option maxHeartbeats 1000000 in
theorem lsub_ls {w : World} {A A' : Option Addr} {n c m c' : Nat} {l r : List Pr} (h : LS w A n c l) (k : LS w A' m c' r) :
    Calls Try.prog 19 #[.slice A n c, .slice A' m c'] w fun e w' => e = .returned (.bool (subP l r)) ∧ Below w.heap.size w w' := by
  have C := Lib.hid (rmissing_ls h k)
  rw [subP_mis]
  clear h k
  generalize misP l r = o at *
  go_enter Try.func19, Try.ntmps19
  rcases o with _ | ⟨p1, p2⟩
  · unfold mres at C
    dsimp only at C
    go_wp2_with fail
    refine C.out.mono ?_
    rintro e W1 ⟨rfl, hb⟩
    have HB := Lib.hid (hb.alloc hb.size (prObj 0 0))
    clear hb
    go_wp2
    go_ret
    exact ⟨rfl, HB.out⟩
  · unfold mres at C
    dsimp only at C
    go_wp2_with fail
    refine C.out.mono ?_
    rintro e W1 ⟨rfl, hb⟩
    have HB := Lib.hid (hb.alloc hb.size (prObj p1 p2))
    clear hb
    go_wp2
    go_ret
    exact ⟨rfl, HB.out⟩

/-- Two lists that are seen, carried from world to world. -/
structure XK2 (w : World) (A : Option Addr) (n c : Nat) (l : List Pr) (A' : Option Addr) (n' c' : Nat) (r : List Pr) (W : World) : Prop where
  blw : Below w.heap.size w W
  l : LS W A n c l
  r : LS W A' n' c' r
theorem XK2.below {w W W' : World} {A : Option Addr} {n c : Nat} {l : List Pr} {A' : Option Addr} {n' c' : Nat} {r : List Pr} (h : XK2 w A n c l A' n' c' r W) (hb : Below W.heap.size W W') : XK2 w A n c l A' n' c' r W' := ⟨h.blw.trans (hb.mono h.blw.size), h.l.below hb, h.r.below hb⟩

set_option maxRecDepth 100000 in
set_option maxHeartbeats 16000000 in
theorem TransferMonotone_walk (a0 : Option Addr) (len0 cap0 : Nat) (a1 : Option Addr) (len1 cap1 : Nat) (a2 a3 a4 a5 : Int) (w : World) (w0 : IsPrs w a0 len0 cap0) (w1 : IsPrs w a1 len1 cap1) (w2 : (Lit.int .i64 a2).wf = true) (w3 : (Lit.int .i64 a3).wf = true) (w4 : (Lit.int .i64 a4).wf = true) (w5 : (Lit.int .i64 a5).wf = true) :
    Calls Try.prog 6 #[.slice a0 len0 cap0, .slice a1 len1 cap1, .int .i64 a2, .int .i64 a3, .int .i64 a4, .int .i64 a5] w fun e w' => e = .returned (.bool true) ∧ Below w.heap.size w w' := by
  obtain ⟨l, rfl, _, hs, hlc, hcm⟩ := w0
  obtain ⟨m, rfl, _, ks, klc, kcm⟩ := w1
  obtain ⟨i0, hi0, hz0, hz1, hz2⟩ := info_pr
  have AW := Lib.hid fun W => awake_any W
  clear w2 w3 w4 w5
  by_cases h40 : 40 < l.length
  · have hz : (40 : Int) < (l.length : Int) := by omega
    clear hs hlc hcm ks klc kcm
    go_enter Try.func6, Try.ntmps6
    go_wp2_with fail
    refine (AW.out _).mono ?_
    rintro e W1 ⟨rfl, hb⟩
    have HB := Lib.hid ((Below.refl w.heap.size w).trans (hb.mono (Below.refl w.heap.size w).size))
    clear hb
    go_wp2_with fail
    refine (AW.out _).mono ?_
    rintro e W2 ⟨rfl, hb⟩
    have HB2 := Lib.hid (HB.out.trans (hb.mono HB.out.size))
    clear hb
    go_wp2
    go_ret
    exact ⟨rfl, HB2.out⟩
  · have hz : ¬ (40 : Int) < (l.length : Int) := by omega
    by_cases k40 : 40 < m.length
    · have kz : (40 : Int) < (m.length : Int) := by omega
      clear hs hlc hcm ks klc kcm
      go_enter Try.func6, Try.ntmps6
      go_wp2_with fail
      refine (AW.out _).mono ?_
      rintro e W1 ⟨rfl, hb⟩
      have HB := Lib.hid ((Below.refl w.heap.size w).trans (hb.mono (Below.refl w.heap.size w).size))
      clear hb
      go_wp2_with fail
      refine (AW.out _).mono ?_
      rintro e W2 ⟨rfl, hb⟩
      have HB2 := Lib.hid (HB.out.trans (hb.mono HB.out.size))
      clear hb
      go_wp2
      go_ret
      exact ⟨rfl, HB2.out⟩
    · have kz : ¬ (40 : Int) < (m.length : Int) := by omega
      have hl : l.length ≤ 40 := by omega
      have hm : m.length ≤ 40 := by omega
      have HL0 := Lib.hid (LS.in rfl hs hlc hcm (by omega))
      have HM0 := Lib.hid (LS.in rfl ks klc kcm (by omega))
      have hx : (mkP l).length ≤ 40 := Nat.le_trans (mkP_len _) (by omega)
      have hy : (mkP (l ++ m)).length ≤ 80 := Nat.le_trans (mkP_len _) (by simp; omega)
      have HSX := Lib.hid (mkP_srt l)
      have HSY := Lib.hid (mkP_srt (l ++ m))
      have HXY : Hid (∀ q ∈ mkP l, q ∈ mkP (l ++ m)) := fun q hq => mem_mkP.2 (List.mem_append.2 (.inl (mem_mkP.1 hq)))
      clear hs hlc hcm h40 ks klc kcm k40
      go_enter Try.func6, Try.ntmps6
      go_wp2_with fail
      refine (AW.out _).mono ?_
      rintro e W1 ⟨rfl, hb⟩
      have HK1 : Hid (XK2 w a0 l.length cap0 l a1 m.length cap1 m W1) := ⟨hb, HL0.out.below hb, HM0.out.below hb⟩
      have C := Lib.hid (rmake_ls HK1.out.l)
      clear hb HL0 HM0 AW
      go_wp2_with fail
      refine C.out.mono ?_
      rintro e W2 ⟨A, n, c, rfl, hP, hL⟩
      have HK2 := Lib.hid (HK1.out.below hP.blw)
      have HX2 := Lib.hid hL
      have hn : n ≤ 500 := by have := hL.len; omega
      clear hP hL C HK1
      go_upto_region 4 with fail
      have hs9 := (HK2.out.l.see).alloc (Nat.le_refl _) (.cells #[] 35)
      go_wp2_with (at_builtin; refine wpList_append_any _ rfl (.tmp 30) (.tmp 31) 22 rfl W2.heap.size 35 i0 (.agg #[.int .i64 0, .int .i64 0]) 2 16 Try.underlying22 hi0 hz0 hz1 hz2 rfl (by decide) _ _ _ rfl (own_empty W2 35 2) W2.heap.size _ _ _ (prs l) rfl hs9 (prs_length _) (prs_one _) ?c1 ?c2 ?c3 ?_)
      case c1 => unfold maxLen; omega
      case c2 => omega
      case c3 => simp
      intro v3 W3 ho1 hg1 _
      have HP3 : Hid (PL W2 v3 l W3) := PL.clone (by omega) ho1 hg1
      clear ho1 hg1 hs9
      have hs9 := (HK2.out.r.below HP3.out.blw).see
      have hown := HP3.out.own
      go_wp2_with (at_builtin; refine wpList_append_any _ rfl (.tmp 32) (.tmp 33) 22 rfl W2.heap.size 35 i0 (.agg #[.int .i64 0, .int .i64 0]) 2 16 Try.underlying22 hi0 hz0 hz1 hz2 rfl (by decide) _ _ _ rfl hown W3.heap.size _ _ _ (prs m) rfl hs9 (prs_length _) (prs_one _) ?c1 ?c2 ?c3 ?_)
      case c1 => unfold maxLen; omega
      case c2 => omega
      case c3 => exact HP3.out.blw.size
      intro v4 W4 ho1 hg1 _
      have HP4 : Hid (PL W2 v4 (l ++ m) W4) := HP3.out.join (by omega) (by omega) ho1 hg1
      clear ho1 hg1 hs9 hown HP3
      obtain ⟨A4, c4, rfl, _, _⟩ := HP4.out.slice
      have HL4 := Lib.hid (HP4.out.ls (by simp; omega))
      have HX4 := Lib.hid (HX2.out.below HP4.out.blw)
      have HB4 := Lib.hid (HK2.out.blw.trans (HP4.out.blw.mono HK2.out.blw.size))
      clear HX2 HK2 HP4
      generalize (l ++ m).length = q at HL4 ⊢
      have C := Lib.hid (rmake_ls HL4.out)
      go_wp2_with fail
      refine C.out.mono ?_
      rintro e W5 ⟨A5, n5, c5, rfl, hP, hL⟩
      have HK5 : Hid (XK2 w A n c (mkP l) A5 n5 c5 (mkP (l ++ m)) W5) := ⟨HB4.out.trans (hP.blw.mono HB4.out.size), HX4.out.below hP.blw, hL⟩
      have hn5 : n5 ≤ 500 := by have := hL.len; omega
      clear hP hL C HX4 HB4 hx hy
      generalize mkP l = x at *
      generalize mkP (l ++ m) = y at *
      have C := Lib.hid (copy_ls a2 a3 HK5.out.l HSX.out hn)
      go_wp2_with fail
      refine C.out.mono ?_
      rintro e W6 ⟨A1, n1, c1, rfl, hP, hL⟩
      have HK1 := Lib.hid (HK5.out.below hP.blw)
      have HL1 := Lib.hid hL
      clear hP hL C HK5
      have C := Lib.hid (copy_ls a2 a3 HK1.out.r HSY.out hn5)
      go_wp2_with fail
      refine C.out.mono ?_
      rintro e W7 ⟨A2, n2, c2, rfl, hP, hL⟩
      have HK2 := Lib.hid (HK1.out.below hP.blw)
      have D := Lib.hid (lsub_ls (HL1.out.below hP.blw) hL)
      rw [subP_iff.2 (cpP_mono HXY.out a2 a3)] at D
      clear hP hL C HK1 HL1
      go_wp2_with fail
      refine D.out.mono ?_
      rintro e W8 ⟨rfl, hb⟩
      have HK6 := Lib.hid (HK2.out.below hb)
      clear hb D HK2
      have C := Lib.hid (move_ls a4 a5 HK6.out.l HSX.out hn)
      go_wp2_with fail
      refine C.out.mono ?_
      rintro e W9 ⟨A1, n1, c1, rfl, hP, hL⟩
      have HK1 := Lib.hid (HK6.out.below hP.blw)
      have HL1 := Lib.hid hL
      clear hP hL C HK6
      have C := Lib.hid (move_ls a4 a5 HK1.out.r HSY.out hn5)
      go_wp2_with fail
      refine C.out.mono ?_
      rintro e W10 ⟨A2, n2, c2, rfl, hP, hL⟩
      have HK2 := Lib.hid (HK1.out.below hP.blw)
      have D := Lib.hid (lsub_ls (HL1.out.below hP.blw) hL)
      rw [subP_iff.2 (mvP_mono HXY.out a4 a5)] at D
      clear hP hL C HK1 HL1
      go_wp2_with fail
      refine D.out.mono ?_
      rintro e W11 ⟨rfl, hb⟩
      have HK7 := Lib.hid (HK2.out.below hb)
      clear hb D HK2
      have C := Lib.hid (define_ls a2 a4 HK7.out.l HSX.out hn)
      go_wp2_with fail
      refine C.out.mono ?_
      rintro e W12 ⟨A1, n1, c1, rfl, hP, hL⟩
      have HK1 := Lib.hid (HK7.out.below hP.blw)
      have HL1 := Lib.hid hL
      clear hP hL C HK7
      have C := Lib.hid (define_ls a2 a4 HK1.out.r HSY.out hn5)
      go_wp2_with fail
      refine C.out.mono ?_
      rintro e W13 ⟨A2, n2, c2, rfl, hP, hL⟩
      have HK2 := Lib.hid (HK1.out.below hP.blw)
      have D := Lib.hid (lsub_ls (HL1.out.below hP.blw) hL)
      rw [subP_iff.2 (dfP_mono HXY.out a2 a4)] at D
      clear hP hL C HK1 HL1
      go_wp2_with fail
      refine D.out.mono ?_
      rintro e W14 ⟨rfl, hb⟩
      have HK8 := Lib.hid (HK2.out.below hb)
      clear hb D HK2
      go_wp2
      go_ret
      exact ⟨rfl, HK8.out.blw⟩

end Go.Proofs.Ytcnkkpnfijihbaa
