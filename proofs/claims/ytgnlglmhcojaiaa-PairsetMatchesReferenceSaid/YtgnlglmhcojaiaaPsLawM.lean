/-
  The walk of the statement on lists and sets.
-/
import Derived.Test.YtgnlglmhcojaiaaPsLawK
import Derived.Test.YtgnlglmhcojaiaaTake
import Derived.Deep.RegionHeldLaw
namespace Go.Proofs.Ytgnlglmhcojaiaa
open Go.RowKit
set_option linter.unusedVariables false

theorem PL.push2 {w wr w' : World} {v v' : Value} {l : List Pr} (h : PL w v l wr) (r : List Pr) {n m : Nat} (hn : n = l.length) (hm : m = r.length)
    (ho : w'.ownsRow w.heap.size 25 2 v' (n + m) (prs l ++ prs r)) (hg : wr.grownBy w' v.ownBlock) : PL w v' (l ++ r) w' := by
  subst hn hm
  refine ⟨by rw [prs_append, List.length_append]; exact ho, ?_⟩
  exact h.blw.grown hg h.blw.size fun k hk => (ownS_lt h.own k hk).1

set_option maxRecDepth 100000 in
set_option maxHeartbeats 8000000 in
theorem sets_big (l0 : Nat) (A0 : Option Addr) (c0 : Nat) (x1 x2 : Int) (w : World) (h : 60 < l0) :
    Calls Try.prog 4 #[.slice A0 l0 c0, .agg #[.int .i64 x1, .int .i64 x2]] w fun e w' => e = .returned (.bool true) ∧ Below w.heap.size w w' := by
  have AW := Lib.hid fun W => awake_any W
  have HB0 := Lib.hid ((Below.refl w.heap.size w).alloc (Nat.le_refl _) (prObj x1 x2))
  have z0 : (60 : Int) < (l0 : Int) := by omega
  go_enter Try.func4, Try.ntmps4
  go_wp2_with fail
  refine (AW.out _).mono ?_
  rintro e W1 ⟨rfl, hb⟩
  have HB := Lib.hid (HB0.out.trans (hb.mono HB0.out.size))
  clear hb
  go_wp2_with fail
  refine (AW.out _).mono ?_
  rintro e W2 ⟨rfl, hb⟩
  have HB2 := Lib.hid (HB.out.trans (hb.mono HB.out.size))
  clear hb
  go_wp2
  go_ret
  exact ⟨rfl, HB2.out⟩

set_option maxRecDepth 100000 in
set_option maxHeartbeats 16000000 in
theorem PairsetMatchesSets_walk (a0 : Option Addr) (len0 cap0 : Nat) (a1 : Array Value) (w : World) (w0 : IsPrs w a0 len0 cap0) (w1 : IsPr w a1) :
    Calls Try.prog 4 #[.slice a0 len0 cap0, .agg a1] w fun e w' => e = .returned (.bool true) ∧ Below w.heap.size w w' := by
  obtain ⟨la, rfl, _, hsa, hca, hma⟩ := w0
  obtain ⟨⟨x1, x2⟩, rfl, _⟩ := w1
  dsimp only
  by_cases hbig : 60 < la.length
  · exact sets_big _ _ _ x1 x2 w hbig
  · have n0 : la.length ≤ 60 := by omega
    have z0 : ¬ (60 : Int) < (la.length : Int) := by omega
    have mixed : Try.prog.follows .mixedOrders = true := by kernel_rfl
    obtain ⟨i0, hi0, hz0, hz1, hz2⟩ := info_pr
    have AW := Lib.hid fun W => awake_any W
    have hb0 := (Below.refl w.heap.size w).alloc (Nat.le_refl _) (prObj x1 x2)
    have hR := Row.new w 25 #[.int .i64 x1, .int .i64 x2]
    have HA := Lib.hid ((LS.in rfl hsa hca hma (by omega)).below hb0)
    have HW0 := Lib.hid hb0
    have lx : (mkP la).length ≤ 60 := Nat.le_trans (mkP_len _) (by omega)
    have sx := Lib.hid (mkP_srt la)
    clear hsa hca hma hb0
    go_enter Try.func4, Try.ntmps4
    go_upto_region 1 with fail
    generalize (w.alloc (.cells #[.int .i64 x1, .int .i64 x2] 25)) = W0 at *
    have HR := Lib.hid hR
    clear hR
    go_wp2_with fail
    refine (AW.out _).mono ?_
    rintro e W1 ⟨rfl, hb⟩
    have HW1 := Lib.hid (HW0.out.trans (hb.mono HW0.out.size))
    have HA1 := Lib.hid (HA.out.below hb)
    have HR1 := Lib.hid (HR.out.below hb HR.out.lt)
    clear hb HA HR AW HW0
    have C := Lib.hid (pmake_ls HA1.out)
    go_wp2_with fail
    refine C.out.mono ?_
    rintro e W2 ⟨Ax, nx, cx, rfl, hP, hL⟩
    have HX2 := Lib.hid hL
    have HA2 := Lib.hid (HA1.out.below hP.blw)
    have hR2 := HR1.out.below hP.blw HR1.out.lt
    have HW2 := Lib.hid (HW1.out.trans (hP.blw.mono HW1.out.size))
    clear hP hL C HA1 HR1 HW1
    have p0 := hR2.cell 0
    have p1 := hR2.cell 1
    simp only [List.getElem?_toArray, List.getElem?_cons_zero, List.getElem?_cons_succ] at p0 p1
    have g0 := fun n os => Go.cell_grown (World.block_lt_of_cell? _ _ p0) p0 n os
    have g1 := fun n os => Go.cell_grown (World.block_lt_of_cell? _ _ p1) p1 n os
    have C1 : Hid (∀ n os, Calls Try.prog 13 #[.slice Ax nx cx] (Go.Sort.grow (W2.drewN n) os) fun e w' => e = .returned (.bool true) ∧ ∃ q os', w' = Go.Sort.grow ((Go.Sort.grow (W2.drewN n) os).drewN q) os') := fun n os => by
      have := psorted_ls (HX2.out.below (Grew.below ⟨n, os, rfl⟩))
      rw [srtB_of sx.out] at this
      exact this
    obtain ⟨bh, hbh⟩ : ∃ z, z = hasP la (x1, x2) := ⟨_, rfl⟩
    have C2 : Hid (∀ n os, Calls Try.prog 17 #[.slice Ax nx cx, .agg #[.int .i64 x1, .int .i64 x2]] (Go.Sort.grow (W2.drewN n) os) fun e w' => e = .returned (.bool bh) ∧ ∃ q os', w' = Go.Sort.grow ((Go.Sort.grow (W2.drewN n) os).drewN q) os') := fun n os => by
      have := phas_ls (x1, x2) (HX2.out.below (Grew.below ⟨n, os, rfl⟩)) sx.out
      rw [show hasP (mkP la) (x1, x2) = bh by rw [hbh]; unfold hasP; simp only [mem_mkP]] at this
      exact this
    have C3 : Hid (∀ n os, Calls Try.prog 18 #[.slice a0 la.length cap0, .agg #[.int .i64 x1, .int .i64 x2]] (Go.Sort.grow (W2.drewN n) os) fun e w' => e = .returned (.bool bh) ∧ ∃ q os', w' = Go.Sort.grow ((Go.Sort.grow (W2.drewN n) os).drewN q) os') := fun n os => by
      have := rhas_ls (x1, x2) (HA2.out.below (Grew.below ⟨n, os, rfl⟩))
      rw [← hbh] at this
      exact this
    have hne : (bh != bh) = false := by simp
    clear hbh hR2 p0 p1
    go_wp2_with fail
    go_quiet_grown (first | (go_at_call 13; refine Calls.grown_of (C1.out _ _)) | (go_at_call 17; refine Calls.grown_of (C2.out _ _)) | (go_at_call 18; refine Calls.grown_of (C3.out _ _)))
    have hgr : Grew W2 (Go.Sort.grow (W2.drewN nq) osq) := ⟨nq, osq, rfl⟩
    have HX3 := Lib.hid (HX2.out.below hgr.below)
    have HA3 := Lib.hid (HA2.out.below hgr.below)
    have HW3 := Lib.hid (HW2.out.trans (hgr.below.mono HW2.out.size))
    clear C1 C2 C3 hgr HX2 HA2 HW2 g0 g1
    generalize Go.Sort.grow (W2.drewN nq) osq = W3 at *
    go_wp2
    -- all pairs of a are in x
    go_loopg [6] la.length (fun g v6 wr => ∃ k : Nat, k + g = la.length ∧ v6 = .int .i64 k ∧ Hid (Below W3.heap.size W3 wr))
    case atStart => exact ⟨0, by omega, by go_num, Below.refl _ _⟩
    case round =>
      obtain ⟨k, hg, rfl, HV⟩ := hrel
      by_cases hlt : k < la.length
      · have hkz : (k : Int) < (la.length : Int) := by omega
        obtain ⟨b, o, rfl, _, c0, c1⟩ := sees_pair (HA3.out.below HV.out).see hlt
        have D := Lib.hid (phas_ls la[k] (HX3.out.below HV.out) sx.out)
        rw [show hasP (mkP la) la[k] = true from decide_eq_true (mem_mkP.2 (List.getElem_mem _))] at D
        generalize la[k].1 = y1 at *
        generalize la[k].2 = y2 at *
        go_wp2_with fail
        refine D.out.mono ?_
        rintro e W4 ⟨rfl, hgw⟩
        have HV2 := Lib.hid (HV.out.trans (hgw.below.mono HV.out.size))
        clear hgw D c0 c1
        go_wp2
        go_roundg (la.length - (k + 1))
        case measure => omega
        case rel => exact ⟨k + 1, by omega, by go_num, HV2.out⟩
      · have hkz : ¬ (k : Int) < (la.length : Int) := by omega
        have HX4 := Lib.hid (HX3.out.below HV.out)
        have HA4 := Lib.hid (HA3.out.below HV.out)
        have HW4 := Lib.hid (HW3.out.trans (HV.out.mono HW3.out.size))
        clear HX3 HA3 HW3 HV
        go_wp2
        -- all pairs of x are in a
        generalize wr = W5 at *
        have hnx := HX4.out.len
        have hnx2 : nx ≤ 60 := by omega
        have HNX := Lib.hid hnx
        clear hnx
        go_loopg [7] nx (fun g v7 wr => ∃ k : Nat, k + g = nx ∧ v7 = .int .i64 k ∧ Hid (Below W5.heap.size W5 wr))
        case atStart => exact ⟨0, by omega, by go_num, Below.refl _ _⟩
        case round =>
          obtain ⟨k, hg, rfl, HV⟩ := hrel
          by_cases hlt : k < nx
          · have hkz : (k : Int) < (nx : Int) := by omega
            have hkx : k < (mkP la).length := by rw [HNX.out]; exact hlt
            obtain ⟨b, o, rfl, _, c0, c1⟩ := sees_pair (HX4.out.below HV.out).see hkx
            have D := Lib.hid (rhas_ls (mkP la)[k] (HA4.out.below HV.out))
            rw [show hasP la (mkP la)[k] = true from decide_eq_true (mem_mkP.1 (List.getElem_mem _))] at D
            generalize (mkP la)[k].1 = y1 at *
            generalize (mkP la)[k].2 = y2 at *
            clear hkx
            go_wp2_with fail
            refine D.out.mono ?_
            rintro e W6 ⟨rfl, hgw⟩
            have HV2 := Lib.hid (HV.out.trans (hgw.below.mono HV.out.size))
            clear hgw D c0 c1
            go_wp2
            go_roundg (nx - (k + 1))
            case measure => omega
            case rel => exact ⟨k + 1, by omega, by go_num, HV2.out⟩
          · have hkz : ¬ (k : Int) < (nx : Int) := by omega
            have HX5 := Lib.hid (HX4.out.below HV.out)
            have HA5 := Lib.hid (HA4.out.below HV.out)
            have HW5 := Lib.hid (HW4.out.trans (HV.out.mono HW4.out.size))
            clear HX4 HA4 HW4 HV
            go_upto_region 18 with fail
            have HPB : Hid (PL wr (.slice (some ⟨wr.heap.size, 0, none⟩) 0 0) [] (wr.alloc (.cells #[] 25))) := ⟨own_empty wr 25 2, (Below.refl _ _).alloc (Nat.le_refl _) _⟩
            generalize wr = W6 at *
            go_loopg [8, 9] la.length (fun g v8 v9 wr => ∃ (k : Nat) (bk : List Pr), k ≤ g ∧ k ≤ la.length ∧ v9 = .int .i64 ((k : Int) - 1) ∧ Hid (∀ q, q ∈ bk ↔ q ∈ la.drop k) ∧ bk.length ≤ 2 * (la.length - k) ∧ Hid (PL W6 v8 bk wr))
            case atStart => exact ⟨la.length, [], Nat.le_refl _, Nat.le_refl _, by go_num, by
              show ∀ _, _
              simp, by simp, HPB.out⟩
            case round =>
              clear HPB
              obtain ⟨k, bk, hg, hkl, rfl, HM, hbl, HP⟩ := hrel
              rcases k with _ | k
              · rw [show (((0 : Nat) : Int) - 1) = -1 from rfl]
                have hbk : bk.length ≤ 120 := by omega
                have HMB : Hid (mkP bk = mkP la) := mkP_congr fun q => by have := HM.out q; rwa [List.drop_zero] at this
                have hkA := HA5.out.below HP.out.blw
                obtain ⟨Ab, cb, rfl, _, _⟩ := HP.out.slice
                have HB6 := Lib.hid (HP.out.ls (by omega))
                have HX6 := Lib.hid (HX5.out.below HP.out.blw)
                have HA6 := Lib.hid hkA
                have HW6 := Lib.hid (HW5.out.trans (HP.out.blw.mono HW5.out.size))
                clear HP HX5 HA5 HW5 hkA HM
                generalize bk.length = nb at *
                have C := Lib.hid (pmake_ls (LS.nil wr))
                rw [show mkP [] = [] from rfl] at C
                go_wp2_with fail
                refine C.out.mono ?_
                rintro e W7 ⟨A1, n1, c1, rfl, hP, hL⟩
                have HL7 := Lib.hid hL
                have HB7 := Lib.hid (HB6.out.below hP.blw)
                have HX7 := Lib.hid (HX6.out.below hP.blw)
                have HA7 := Lib.hid (HA6.out.below hP.blw)
                have HW7 := Lib.hid (HW6.out.trans (hP.blw.mono HW6.out.size))
                clear hP hL C HB6 HX6 HA6 HW6
                go_wp2
                go_loopg [10, 11] la.length (fun g v10 v11 wr => ∃ (k : Nat) (A : Option Addr) (n c : Nat), k + g = la.length ∧ v11 = .int .i64 k ∧ v10 = .slice A n c ∧ Hid (LS wr A n c (mkP (la.take k))) ∧ Hid (Below W7.heap.size W7 wr))
                case atStart => exact ⟨0, A1, n1, c1, by omega, by go_num, rfl, HL7.out, Below.refl _ _⟩
                case round =>
                  clear HL7
                  obtain ⟨k, A, n, c, hg, rfl, rfl, HL, HV⟩ := hrel
                  by_cases hlt : k < la.length
                  · have hkz : (k : Int) < (la.length : Int) := by omega
                    obtain ⟨b, o, rfl, _, d0, d1⟩ := sees_pair (HA7.out.below HV.out).see hlt
                    have hn : n ≤ 60 := by have := HL.out.len; have := mkP_len (la.take k); have := List.length_take_le k la; simp at *; omega
                    have HT : Hid (mkP (mkP (la.take k) ++ [la[k]]) = mkP (la.take (k + 1))) := by
                      show _ = _
                      rw [← addP_eq (mkP_srt _), ← mkP_snoc, List.take_succ_eq_append_getElem hlt]
                    have D := Lib.hid (padd_ls la[k] HL.out (mkP_srt _) (by omega))
                    rw [HT.out] at D
                    clear HT
                    generalize la[k].1 = y1 at *
                    generalize la[k].2 = y2 at *
                    go_wp2_with fail
                    refine D.out.mono ?_
                    rintro e W8 ⟨A9, n9, c9, rfl, hP, hL⟩
                    have HL8 := Lib.hid hL
                    have HV8 := Lib.hid (HV.out.trans (hP.blw.mono HV.out.size))
                    clear hP hL D d0 d1 HL HV
                    go_wp2
                    go_roundg (la.length - (k + 1))
                    case measure => omega
                    case rel => exact ⟨k + 1, A9, n9, c9, by omega, by go_num, rfl, HL8.out, HV8.out⟩
                  · have hkz : ¬ (k : Int) < (la.length : Int) := by omega
                    rw [List.take_of_length_le (show la.length ≤ k by omega)] at HL
                    have HX8 := Lib.hid (HX7.out.below HV.out)
                    have HB8 := Lib.hid (HB7.out.below HV.out)
                    have HW8 := Lib.hid (HW7.out.trans (HV.out.mono HW7.out.size))
                    clear HX7 HA7 HB7 HW7 HV
                    have C := Lib.hid (pmake_ls HB8.out)
                    rw [HMB.out] at C
                    go_wp2_with fail
                    refine C.out.mono ?_
                    rintro e W9 ⟨A9, n9, c9, rfl, hP, hL⟩
                    have HX9 := Lib.hid (HX8.out.below hP.blw)
                    have HL9 := Lib.hid (HL.out.below hP.blw)
                    have HW9 := Lib.hid (HW8.out.trans (hP.blw.mono HW8.out.size))
                    have D := Lib.hid (same_lsB hL HX9.out)
                    rw [show decide (mkP la = mkP la) = true from decide_eq_true rfl] at D
                    clear hP hL C HX8 HB8 HW8 HL
                    go_wp2_with fail
                    refine D.out.mono ?_
                    rintro e W10 ⟨rfl, hb⟩
                    have E := Lib.hid (same_lsB (HL9.out.below hb) (HX9.out.below hb))
                    rw [show decide (mkP la = mkP la) = true from decide_eq_true rfl] at E
                    have HW10 := Lib.hid (HW9.out.trans (hb.mono HW9.out.size))
                    clear hb D HX9 HL9 HW9
                    go_wp2_with fail
                    refine E.out.mono ?_
                    rintro e W11 ⟨rfl, hb⟩
                    have HW11 := Lib.hid (HW10.out.trans (hb.mono HW10.out.size))
                    clear hb E
                    go_wp2
                    go_ret
                    exact ⟨rfl, HW11.out⟩
              · rw [show (((k + 1 : Nat) : Int) - 1) = (k : Int) by omega]
                have hlt : k < la.length := by omega
                have hkz : (k : Int) < (la.length : Int) := by omega
                have HM2 : Hid (∀ q, q ∈ bk ++ [la[k], la[k]] ↔ q ∈ la.drop k) := fun q => by
                  rw [List.mem_append, HM.out, drop_head hlt]
                  simp only [List.mem_cons, List.not_mem_nil, or_false, or_self]
                  exact or_comm
                obtain ⟨b, o, rfl, hb6, f0, f1⟩ := sees_pair HA5.out.see hlt
                have d0 := (HP.out.blw.cell (p := ⟨b, _, none⟩) hb6).trans f0
                have d1 := (HP.out.blw.cell (p := ⟨b, _, none⟩) hb6).trans f1
                generalize la[k] = y at *
                obtain ⟨y1, y2⟩ := y
                dsimp only at d0 d1 f0 f1
                have HS : Hid (∀ W, Grew wr W → W.cell? ⟨b, o + k * 2, none⟩ = some (.int .i64 y1) ∧ W.cell? ⟨b, o + k * 2 + 1, none⟩ = some (.int .i64 y2)) := fun W h => ⟨h.cell d0, h.cell d1⟩
                have HXC : Hid (∀ W, Below W6.heap.size W6 W → W.cell? ⟨b, o + k * 2, none⟩ = some (.int .i64 y1) ∧ W.cell? ⟨b, o + k * 2 + 1, none⟩ = some (.int .i64 y2)) := fun W h => ⟨(h.cell (p := ⟨b, _, none⟩) hb6).trans f0, (h.cell (p := ⟨b, _, none⟩) hb6).trans f1⟩
                have hG0 := Grew.refl wr
                clear f0 f1 hb6
                have HPW := Lib.hid fun W (h : Grew wr W) => HP.out.grew h
                have hnew := sees_new wr #[.int .i64 y1, .int .i64 y2, .int .i64 y1, .int .i64 y2] 25
                have hl2 : bk.length ≤ 200 := by omega
                have hsz := HP.out.blw.size
                clear HM
                go_wp2_with fail
                go_region_held_law (fun w' => w'.cell? ⟨b, o + k * 2, none⟩ = some (.int .i64 y1) ∧ w'.cell? ⟨b, o + k * 2 + 1, none⟩ = some (.int .i64 y2)) (first | exact HS.out _ hG0 | exact HS.out _ hG0.drew | exact HS.out _ (hG0.alloc _) | exact HS.out _ (hG0.drew.alloc _) | exact HS.out _ (hG0.alloc _).drew | exact hXb) (first
                  | (refine step_append_any _ rfl (.tmp 68) (.tmp 77) 22 rfl _ 25 i0 (.agg #[.int .i64 0, .int .i64 0]) 2 16 Try.underlying22 hi0 hz0 hz1 hz2 rfl (by decide) _ _ _ rfl (HPW.out _ (by first | exact (hG0.alloc _).drew | exact hG0.drew.alloc _ | exact hG0.alloc _)).own (wr.heap.size + 1) _ 2 2 (prs [(y1, y2), (y1, y2)]) rfl hnew rfl (prs_one _) (by unfold maxLen; omega) (by omega) (by simp; omega) ?_; intro v2 W2 ho2 hg2 hb2; have HP2 := Lib.hid ((HPW.out _ (by first | exact (hG0.alloc _).drew | exact hG0.drew.alloc _ | exact hG0.alloc _)).push2 [(y1, y2), (y1, y2)] rfl rfl ho2 hg2); have hXb := HXC.out _ HP2.out.blw)
                  )
                go_wp2
                go_roundg k
                case measure => omega
                case rel => exact ⟨k, bk ++ [(y1, y2), (y1, y2)], Nat.le_refl _, by omega, by first | rfl | go_num, HM2.out, by simp; omega, HP2.out⟩

end Go.Proofs.Ytgnlglmhcojaiaa
