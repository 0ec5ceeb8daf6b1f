/-
  The walk of the statement on what is kept.
-/
import Derived.Test.YtcnkkpnfijihbaaTrLawM
import Derived.Test.YtcnkkpnfijihbaaPsThree
namespace Go.Proofs.Ytcnkkpnfijihbaa
open Go.RowKit
set_option linter.unusedVariables false

theorem own_some {w W : World} {A : Option Addr} {n c : Nat} {l : List Pr} (h : PL w (.slice A n c) l W) (hl : l.length = n) (hn : 0 < n) : ∃ g, A = some ⟨g, 0, none⟩ := by
  rcases h.own.2 with ⟨e, _⟩ | ⟨g', cap, cur, hv, _⟩
  · injection e with _ e2 _
    omega
  · injection hv with e1 _ _
    exact ⟨g', e1⟩

set_option maxRecDepth 100000 in
set_option maxHeartbeats 16000000 in
theorem TransferKeeps_walk (a0 : Option Addr) (len0 cap0 : Nat) (a1 a2 a3 a4 : Int) (w : World) (w0 : IsPrs w a0 len0 cap0) (w1 : (Lit.int .i64 a1).wf = true) (w2 : (Lit.int .i64 a2).wf = true) (w3 : (Lit.int .i64 a3).wf = true) (w4 : (Lit.int .i64 a4).wf = true) :
    Calls Try.prog 7 #[.slice a0 len0 cap0, .int .i64 a1, .int .i64 a2, .int .i64 a3, .int .i64 a4] w fun e w' => e = .returned (.bool true) ∧ Below w.heap.size w w' := by
  obtain ⟨l, rfl, hwf, hs, hlc, hcm⟩ := w0
  obtain ⟨i0, hi0, hz0, hz1, hz2⟩ := info_pr
  have AW := Lib.hid fun W => awake_any W
  clear w1 w2 w3 w4 hwf
  by_cases h60 : 60 < l.length
  · have hz : (60 : Int) < (l.length : Int) := by omega
    clear hs hlc hcm
    go_enter Try.func7, Try.ntmps7
    go_wp2_with fail
    refine (AW.out _).mono ?_
    rintro e W1 ⟨rfl, hb⟩
    have HB := Lib.hid ((Below.refl w.heap.size w).trans (hb.mono (Below.refl w.heap.size w).size))
    clear hb
    go_wp2_with fail
    refine (AW.out _).mono ?_
    rintro e W2 ⟨rfl, hb⟩
    have HB2 := Lib.hid (HB.out.trans (hb.mono HB.out.size))
    clear hb
    go_wp2
    go_ret
    exact ⟨rfl, HB2.out⟩
  · have hz : ¬ (60 : Int) < (l.length : Int) := by omega
    have HL0 := Lib.hid (LS.in rfl hs hlc hcm (by omega))
    have hx : (mkP l).length ≤ 60 := Nat.le_trans (mkP_len _) (by omega)
    have HSX := Lib.hid (mkP_srt l)
    clear hs hlc hcm h60
    go_enter Try.func7, Try.ntmps7
    go_wp2_with fail
    refine (AW.out _).mono ?_
    rintro e W1 ⟨rfl, hb⟩
    have HB1 := Lib.hid hb
    have C := Lib.hid (rmake_ls (HL0.out.below hb))
    clear hb HL0 AW
    go_wp2_with fail
    refine C.out.mono ?_
    rintro e W2 ⟨Ax, n, c, rfl, hP, hL⟩
    have HX2 := Lib.hid hL
    have hn : n ≤ 60 := by have := hL.len; omega
    have hxn : (mkP l).length = 0 + n := by have := hL.len; omega
    have HB2 := Lib.hid (HB1.out.trans (hP.blw.mono HB1.out.size))
    clear hP hL C HB1
    generalize mkP l = x at *
    go_upto_region 4 with fail
    have hs9 := (HX2.out.see).alloc (Nat.le_refl _) (.cells #[] 35)
    go_wp2_with (at_builtin; refine wpList_append_any _ rfl (.tmp 29) (.tmp 30) 22 rfl W2.heap.size 35 i0 (.agg #[.int .i64 0, .int .i64 0]) 2 16 Try.underlying22 hi0 hz0 hz1 hz2 rfl (by decide) _ _ _ rfl (own_empty W2 35 2) W2.heap.size _ _ _ (prs x) rfl hs9 (by rw [prs_length, hxn, Nat.zero_add]) (prs_one _) ?c1 ?c2 ?c3 ?_)
    case c1 => unfold maxLen; omega
    case c2 => omega
    case c3 => simp
    intro v3 W3 ho1 hg1 _
    have HP3 : Hid (PL W2 v3 x W3) := PL.clone (by omega) ho1 hg1
    clear ho1 hg1 hs9
    have HO3 := Lib.hid (HP3.out.slice)
    obtain ⟨Ao, co, rfl, _, _⟩ := HO3.out
    have hO3 := HP3.out.ls (by omega)
    rw [hxn, Nat.zero_add] at hO3
    rw [show x.length = n by omega]
    have HO4 := Lib.hid hO3
    have HX3 := Lib.hid (HX2.out.below HP3.out.blw)
    have HB3 := Lib.hid (HB2.out.trans (HP3.out.blw.mono HB2.out.size))
    clear hO3 HO3 HX2 HB2 HP3 hxn hx
    have C := Lib.hid (copy_ls a1 a2 HX3.out HSX.out (by omega))
    generalize cpP x a1 a2 = xp at *
    go_wp2_with fail
    refine C.out.mono ?_
    rintro e W4 ⟨A4, n4, c4, rfl, hP, hL⟩
    have HP4 := Lib.hid hP
    have HX4 := Lib.hid (HX3.out.below hP.blw)
    have HO5 := Lib.hid (HO4.out.below hP.blw)
    have HL4 := Lib.hid hL.len
    have hn4 : n4 ≤ 1000 := hL.sm
    clear hP hL C
    have C := Lib.hid (move_ls a3 a4 HX4.out HSX.out (by omega))
    generalize mvP x a3 a4 = xq at *
    go_wp2_with fail
    refine C.out.mono ?_
    rintro e W5 ⟨A5, n5, c5, rfl, hP, hL⟩
    have HP5 := Lib.hid hP
    have HX5 := Lib.hid (HX4.out.below hP.blw)
    have HO6 := Lib.hid (HO5.out.below hP.blw)
    have HL5 := Lib.hid hL.len
    have hn5 : n5 ≤ 1000 := hL.sm
    clear hP hL C HX4 HO5
    have C := Lib.hid (define_ls a1 a3 HX5.out HSX.out (by omega))
    generalize dfP x a1 a3 = xr at *
    go_wp2_with fail
    refine C.out.mono ?_
    rintro e W6 ⟨A6, n6, c6, rfl, hP, hL⟩
    have HT := Lib.hid (P3.of HP4.out HP5.out hP)
    have HL6 := Lib.hid hL.len
    have hn6 : n6 ≤ 1000 := hL.sm
    clear hP hL C HP4 HP5 HX5 HO6
    go_wp2
    go_loopg [16] n4 (fun g v wr => ∃ (k : Nat) (xs : List Pr), k + g = n4 ∧ v = .int .i64 k ∧ xs.length = n4 ∧ Hid (P3 W3 (.slice A4 n4 c4) (.slice A5 n5 c5) (.slice A6 n6 c6) xs xq xr wr))
    case atStart => exact ⟨0, _, by omega, by go_num, HL4.out, HT.out⟩
    case round =>
      clear HT
      obtain ⟨k, xs, hg, rfl, hxl, HP⟩ := hrel
      by_cases hlt : k < n4
      · have hkz : (k : Int) < (n4 : Int) := by omega
        obtain ⟨gb, rfl⟩ := own_some HP.out.a hxl (by omega)
        obtain ⟨b2, o2, eC, _, f0, f1⟩ := sees_pair HP.out.a.sees (show k < xs.length by omega)
        injection eC with eC
        injection eC with eC1 eC2
        subst eC1 eC2
        rw [Nat.zero_add] at f0 f1
        have r0 : wr.frozen? ⟨gb, k * 2, none⟩ = false := own_fr HP.out.a _
        have HP3 := Lib.hid (HP.out.put1 hxl (k := k) (by omega) (-5))
        go_wp2
        go_roundg (n4 - (k + 1))
        case measure => omega
        case rel => exact ⟨k + 1, _, by omega, by go_num, by rw [List.length_set]; exact hxl, HP3.out⟩
      · have hkz : ¬ (k : Int) < (n4 : Int) := by omega
        have HT2 := Lib.hid HP.out.rot
        clear HP hxl hg hlt
        obtain ⟨y1, h⟩ : ∃ z, z = xs := ⟨_, rfl⟩
        subst h
        obtain ⟨W7, h⟩ : ∃ z, z = wr := ⟨_, rfl⟩
        subst h
        go_wp2
        go_loopg [17] n5 (fun g v wr => ∃ (k : Nat) (xs : List Pr), k + g = n5 ∧ v = .int .i64 k ∧ xs.length = n5 ∧ Hid (P3 W3 (.slice A5 n5 c5) (.slice A6 n6 c6) (.slice A4 n4 c4) xs xr y1 wr))
        case atStart => exact ⟨0, _, by omega, by go_num, HL5.out, HT2.out⟩
        case round =>
          clear HT2
          obtain ⟨k, xs, hg, rfl, hxl, HP⟩ := hrel
          by_cases hlt : k < n5
          · have hkz : (k : Int) < (n5 : Int) := by omega
            obtain ⟨gb, rfl⟩ := own_some HP.out.a hxl (by omega)
            obtain ⟨b2, o2, eC, _, f0, f1⟩ := sees_pair HP.out.a.sees (show k < xs.length by omega)
            injection eC with eC
            injection eC with eC1 eC2
            subst eC1 eC2
            rw [Nat.zero_add] at f0 f1
            have r0 : wr.frozen? ⟨gb, k * 2, none⟩ = false := own_fr HP.out.a _
            have HP3 := Lib.hid (HP.out.put1 hxl (k := k) (by omega) (-5))
            go_wp2
            go_roundg (n5 - (k + 1))
            case measure => omega
            case rel => exact ⟨k + 1, _, by omega, by go_num, by rw [List.length_set]; exact hxl, HP3.out⟩
          · have hkz : ¬ (k : Int) < (n5 : Int) := by omega
            have HT3 := Lib.hid HP.out.rot
            clear HP hxl hg hlt
            obtain ⟨y2, h⟩ : ∃ z, z = xs := ⟨_, rfl⟩
            subst h
            obtain ⟨W8, h⟩ : ∃ z, z = wr := ⟨_, rfl⟩
            subst h
            go_wp2
            go_loopg [18] n6 (fun g v wr => ∃ (k : Nat) (xs : List Pr), k + g = n6 ∧ v = .int .i64 k ∧ xs.length = n6 ∧ Hid (P3 W3 (.slice A6 n6 c6) (.slice A4 n4 c4) (.slice A5 n5 c5) xs y1 y2 wr))
            case atStart => exact ⟨0, _, by omega, by go_num, HL6.out, HT3.out⟩
            case round =>
              clear HT3
              obtain ⟨k, xs, hg, rfl, hxl, HP⟩ := hrel
              by_cases hlt : k < n6
              · have hkz : (k : Int) < (n6 : Int) := by omega
                obtain ⟨gb, rfl⟩ := own_some HP.out.a hxl (by omega)
                obtain ⟨b2, o2, eC, _, f0, f1⟩ := sees_pair HP.out.a.sees (show k < xs.length by omega)
                injection eC with eC
                injection eC with eC1 eC2
                subst eC1 eC2
                rw [Nat.zero_add] at f0 f1
                have r0 : wr.frozen? ⟨gb, k * 2, none⟩ = false := own_fr HP.out.a _
                have HP3 := Lib.hid (HP.out.put1 hxl (k := k) (by omega) (-5))
                go_wp2
                go_roundg (n6 - (k + 1))
                case measure => omega
                case rel => exact ⟨k + 1, _, by omega, by go_num, by rw [List.length_set]; exact hxl, HP3.out⟩
              · have hkz : ¬ (k : Int) < (n6 : Int) := by omega
                have HT4 := Lib.hid HP.out.rot
                clear HP hxl hg hlt
                obtain ⟨y3, h⟩ : ∃ z, z = xs := ⟨_, rfl⟩
                subst h
                obtain ⟨W9, h⟩ : ∃ z, z = wr := ⟨_, rfl⟩
                subst h
                have D := Lib.hid (same_lsB (HX3.out.below HT4.out.a.blw) (HO4.out.below HT4.out.a.blw))
                rw [show decide (x = x) = true from decide_eq_true rfl] at D
                have HB9 := Lib.hid (HB3.out.trans (HT4.out.a.blw.mono HB3.out.size))
                go_wp2_with fail
                refine D.out.mono ?_
                rintro e W10 ⟨rfl, hb⟩
                have HB10 := Lib.hid (HB9.out.trans (hb.mono HB9.out.size))
                clear hb
                go_wp2
                go_ret
                exact ⟨rfl, HB10.out⟩

end Go.Proofs.Ytcnkkpnfijihbaa
