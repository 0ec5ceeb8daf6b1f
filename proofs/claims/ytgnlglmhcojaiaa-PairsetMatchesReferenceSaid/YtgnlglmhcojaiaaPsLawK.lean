/-
  The walk of the statement on what is kept.
-/
import Derived.Test.YtgnlglmhcojaiaaPsLawS
namespace Go.Proofs.Ytgnlglmhcojaiaa
open Go.RowKit
set_option linter.unusedVariables false

theorem PL.clone {w w' : World} {v : Value} {l : List Pr} {m : Nat} (hm : l.length = m)
    (ho : w'.ownsRow w.heap.size 25 2 v m (prs l)) (hg : (w.alloc (.cells #[] 25)).grownBy w' (Value.slice (some ⟨w.heap.size, 0, none⟩) 0 0).ownBlock) : PL w v l w' := by
  refine ⟨by rw [hm]; exact ho, ((Below.refl _ _).alloc (Nat.le_refl _) _).grown hg (by simp) (fun k hk => by simp [Value.ownBlock] at hk; omega)⟩

set_option maxRecDepth 100000 in
set_option maxHeartbeats 4000000 in
theorem spoil_any {w W : World} {A : Option Addr} {n c : Nat} {l : List Pr} (h : PL w (.slice A n c) l W) :
    Calls Try.prog 26 #[.slice A n c] W fun e w' => e = .returned (.tuple #[]) ∧ ∃ l', PL w (.slice A n c) l' w' := by
  obtain ⟨A1, c1, e, hc, hm⟩ := h.slice
  injection e with e1 e2 e3
  subst e1 e2 e3
  unfold maxLen at hm
  have HP := Lib.hid h
  clear h
  go_enter Try.func26, Try.ntmps26
  go_wp2
  go_loopg [2] l.length (fun g v2 wr => ∃ (k : Nat) (xs : List Pr), k + g = l.length ∧ v2 = .int .i64 k ∧ xs.length = l.length ∧ Hid (PL w (.slice A l.length c) xs wr))
  case atStart => exact ⟨0, l, by omega, by go_num, rfl, HP.out⟩
  case round =>
    obtain ⟨k, xs, hg, rfl, hxl, HP⟩ := hrel
    by_cases hlt : k < l.length
    · have hkz : (k : Int) < (l.length : Int) := by omega
      have hA : ∃ g, A = some ⟨g, 0, none⟩ := by
        rcases HP.out.own.2 with ⟨e, _⟩ | ⟨g', cap, cur, hv, _⟩
        · injection e with _ e2 _
          omega
        · injection hv with e1 _ _
          exact ⟨g', e1⟩
      obtain ⟨g, rfl⟩ := hA
      obtain ⟨b2, o2, eC, _, f0, f1⟩ := sees_pair HP.out.sees (show k < xs.length by omega)
      injection eC with eC
      injection eC with eC1 eC2
      subst eC1 eC2
      rw [Nat.zero_add] at f0 f1
      have r0 : wr.frozen? ⟨g, k * 2, none⟩ = false := own_fr HP.out _
      have r1 : wr.frozen? ⟨g, k * 2 + 1, none⟩ = false := own_fr HP.out _
      have HP3 := Lib.hid (HP.out.put hxl (k := k) (by omega) (-7) (-9))
      go_wp2
      go_roundg (l.length - (k + 1))
      case measure => omega
      case rel => exact ⟨k + 1, _, by omega, by go_num, by rw [List.length_set]; exact hxl, HP3.out⟩
    · have hkz : ¬ (k : Int) < (l.length : Int) := by omega
      go_wp2
      go_end0
      exact ⟨rfl, xs, HP.out⟩

/-- What the walk carries: the pair, and the six lists. -/
structure KS (w : World) (x1 x2 : Int) (la lx ly : List Pr) (Aa Ao Ax Au Ay Av : Option Addr) (na no nx nu ny nv ca co cx cu cy cv : Nat) (W : World) : Prop where
  blw : Below w.heap.size w W
  row : Row W w.heap.size 25 #[.int .i64 x1, .int .i64 x2]
  a : LS W Aa na ca la
  o : LS W Ao no co la
  x : LS W Ax nx cx lx
  u : LS W Au nu cu lx
  y : LS W Ay ny cy ly
  v : LS W Av nv cv ly
theorem KS.below {w : World} {x1 x2 : Int} {la lx ly : List Pr} {Aa Ao Ax Au Ay Av : Option Addr} {na no nx nu ny nv ca co cx cu cy cv : Nat} {W W' : World} (h : KS w x1 x2 la lx ly Aa Ao Ax Au Ay Av na no nx nu ny nv ca co cx cu cy cv W) (hb : Below W.heap.size W W') : KS w x1 x2 la lx ly Aa Ao Ax Au Ay Av na no nx nu ny nv ca co cx cu cy cv W' :=
  ⟨h.blw.trans (hb.mono h.blw.size), h.row.below hb h.row.lt, h.a.below hb, h.o.below hb, h.x.below hb, h.u.below hb, h.y.below hb, h.v.below hb⟩

set_option maxRecDepth 100000 in
set_option maxHeartbeats 8000000 in
theorem keeps_big (l0 l1 : Nat) (A0 A1 : Option Addr) (c0 c1 : Nat) (x1 x2 : Int) (w : World) (h : 60 < l0 ∨ 60 < l1) :
    Calls Try.prog 8 #[.slice A0 l0 c0, .slice A1 l1 c1, .agg #[.int .i64 x1, .int .i64 x2]] w fun e w' => e = .returned (.bool true) ∧ Below w.heap.size w w' := by
  have AW := Lib.hid fun W => awake_any W
  have HB0 := Lib.hid ((Below.refl w.heap.size w).alloc (Nat.le_refl _) (prObj x1 x2))
  go_enter Try.func8, Try.ntmps8
  by_cases h0 : 60 < l0
  · have z0 : (60 : Int) < (l0 : Int) := by omega
    clear h
    go_wp2_with fail
    refine (AW.out _).mono ?_
    rintro e W1 ⟨rfl, hb⟩
    have HB := Lib.hid (HB0.out.trans (hb.mono HB0.out.size))
    clear hb
    go_wp2_with fail
    refine (AW.out _).mono ?_
    rintro e W2 ⟨rfl, hb⟩
    have HB2 := Lib.hid (HB.out.trans (hb.mono HB.out.size))
    clear hb
    go_wp2
    go_ret
    exact ⟨rfl, HB2.out⟩
  · have z0 : ¬ (60 : Int) < (l0 : Int) := by omega
    have z1 : (60 : Int) < (l1 : Int) := by omega
    clear h
    go_wp2_with fail
    refine (AW.out _).mono ?_
    rintro e W1 ⟨rfl, hb⟩
    have HB := Lib.hid (HB0.out.trans (hb.mono HB0.out.size))
    clear hb
    go_wp2_with fail
    refine (AW.out _).mono ?_
    rintro e W2 ⟨rfl, hb⟩
    have HB2 := Lib.hid (HB.out.trans (hb.mono HB.out.size))
    clear hb
    go_wp2
    go_ret
    exact ⟨rfl, HB2.out⟩

set_option maxRecDepth 100000 in
set_option maxHeartbeats 16000000 in
theorem PairsetKeeps_walk (a0 : Option Addr) (len0 cap0 : Nat) (a1 : Option Addr) (len1 cap1 : Nat) (a2 : Array Value) (w : World) (w0 : IsPrs w a0 len0 cap0) (w1 : IsPrs w a1 len1 cap1) (w2 : IsPr w a2) :
    Calls Try.prog 8 #[.slice a0 len0 cap0, .slice a1 len1 cap1, .agg a2] w fun e w' => e = .returned (.bool true) ∧ Below w.heap.size w w' := by
  obtain ⟨la, rfl, _, hsa, hca, hma⟩ := w0
  obtain ⟨lb, rfl, _, hsb, hcb, hmb⟩ := w1
  obtain ⟨⟨x1, x2⟩, rfl, _⟩ := w2
  dsimp only
  by_cases hbig : 60 < la.length ∨ 60 < lb.length
  · exact keeps_big _ _ _ _ _ _ x1 x2 w hbig
  · have n0 : la.length ≤ 60 := by omega
    have n1 : lb.length ≤ 60 := by omega
    have z0 : ¬ (60 : Int) < (la.length : Int) := by omega
    have z1 : ¬ (60 : Int) < (lb.length : Int) := by omega
    obtain ⟨i0, hi0, hz0, hz1, hz2⟩ := info_pr
    have AW := Lib.hid fun W => awake_any W
    have hb0 := (Below.refl w.heap.size w).alloc (Nat.le_refl _) (prObj x1 x2)
    have hR := Row.new w 25 #[.int .i64 x1, .int .i64 x2]
    have HA := Lib.hid ((LS.in rfl hsa hca hma (by omega)).below hb0)
    have HB := Lib.hid ((LS.in rfl hsb hcb hmb (by omega)).below hb0)
    have HW0 := Lib.hid hb0
    have lx : (mkP la).length ≤ 60 := Nat.le_trans (mkP_len _) (by omega)
    have ly : (mkP lb).length ≤ 60 := Nat.le_trans (mkP_len _) (by omega)
    clear hsa hca hma hsb hcb hmb hb0
    go_enter Try.func8, Try.ntmps8
    go_upto_region 1 with fail
    generalize (w.alloc (.cells #[.int .i64 x1, .int .i64 x2] 25)) = W0 at *
    have HR := Lib.hid hR
    clear hR
    go_wp2_with fail
    refine (AW.out _).mono ?_
    rintro e W1 ⟨rfl, hb⟩
    have HW1 := Lib.hid (HW0.out.trans (hb.mono HW0.out.size))
    have HA1 := Lib.hid (HA.out.below hb)
    have HB1 := Lib.hid (HB.out.below hb)
    have HR1 := Lib.hid (HR.out.below hb HR.out.lt)
    clear hb HA HB HR AW HW0
    go_upto_region 3 with fail
    have hs9 := (HA1.out.see).alloc (Nat.le_refl _) (.cells #[] 25)
    go_wp2_with (at_builtin; refine wpList_append_any _ rfl (.tmp 25) (.tmp 26) 22 rfl W1.heap.size 25 i0 (.agg #[.int .i64 0, .int .i64 0]) 2 16 Try.underlying22 hi0 hz0 hz1 hz2 rfl (by decide) _ _ _ rfl (own_empty W1 25 2) W1.heap.size _ _ _ (prs la) rfl hs9 (prs_length _) (prs_one _) ?c1 ?c2 ?c3 ?_)
    case c1 => unfold maxLen; omega
    case c2 => omega
    case c3 => simp
    intro v7 W2 ho1 hg1 _
    have HP7 : Hid (PL W1 v7 la W2) := PL.clone (by omega) ho1 hg1
    clear ho1 hg1 hs9
    obtain ⟨Ao, co, rfl, _, _⟩ := HP7.out.slice
    have HO2 := Lib.hid (HP7.out.ls (by omega))
    have HA2 := Lib.hid (HA1.out.below HP7.out.blw)
    have HB2 := Lib.hid (HB1.out.below HP7.out.blw)
    have HR2 := Lib.hid (HR1.out.below HP7.out.blw HR1.out.lt)
    have HW2 := Lib.hid (HW1.out.trans (HP7.out.blw.mono HW1.out.size))
    clear HA1 HB1 HR1 HW1 HP7
    have C := Lib.hid (rmake_ls HA2.out)
    go_wp2_with fail
    refine C.out.mono ?_
    rintro e W3 ⟨Ax, nx, cx, rfl, hP, hL⟩
    have HX3 := Lib.hid hL
    have HO3 := Lib.hid (HO2.out.below hP.blw)
    have HA3 := Lib.hid (HA2.out.below hP.blw)
    have HB3 := Lib.hid (HB2.out.below hP.blw)
    have HR3 := Lib.hid (HR2.out.below hP.blw HR2.out.lt)
    have HW3 := Lib.hid (HW2.out.trans (hP.blw.mono HW2.out.size))
    clear hP hL C HO2 HA2 HB2 HR2 HW2
    have C := Lib.hid (rmake_ls HB3.out)
    go_wp2_with fail
    refine C.out.mono ?_
    rintro e W4 ⟨Ay, ny, cy, rfl, hP, hL⟩
    have HY4 := Lib.hid hL
    have HX4 := Lib.hid (HX3.out.below hP.blw)
    have HO4 := Lib.hid (HO3.out.below hP.blw)
    have HA4 := Lib.hid (HA3.out.below hP.blw)
    have HR4 := Lib.hid (HR3.out.below hP.blw HR3.out.lt)
    have HW4 := Lib.hid (HW3.out.trans (hP.blw.mono HW3.out.size))
    clear hP hL C HX3 HO3 HA3 HB3 HR3 HW3
    have hnx : nx ≤ 60 := by have := HX4.out.len; omega
    have hny : ny ≤ 60 := by have := HY4.out.len; omega
    have hnx2 : (mkP la).length = 0 + nx := by have := HX4.out.len; omega
    have hny2 : (mkP lb).length = 0 + ny := by have := HY4.out.len; omega
    go_upto_region 6 with fail
    have hs9 := (HX4.out.see).alloc (Nat.le_refl _) (.cells #[] 25)
    go_wp2_with (at_builtin; refine wpList_append_any _ rfl (.tmp 32) (.tmp 33) 22 rfl W4.heap.size 25 i0 (.agg #[.int .i64 0, .int .i64 0]) 2 16 Try.underlying22 hi0 hz0 hz1 hz2 rfl (by decide) _ _ _ rfl (own_empty W4 25 2) W4.heap.size _ _ _ (prs (mkP la)) rfl hs9 (by rw [prs_length, hnx2, Nat.zero_add]) (prs_one _) ?c1 ?c2 ?c3 ?_)
    case c1 => unfold maxLen; omega
    case c2 => omega
    case c3 => simp
    intro v10 W5 ho1 hg1 _
    have HP10 : Hid (PL W4 v10 (mkP la) W5) := PL.clone (by omega) ho1 hg1
    clear ho1 hg1 hs9
    have HX5 := Lib.hid (HX4.out.below HP10.out.blw)
    have HY5 := Lib.hid (HY4.out.below HP10.out.blw)
    have HO5 := Lib.hid (HO4.out.below HP10.out.blw)
    have HA5 := Lib.hid (HA4.out.below HP10.out.blw)
    have HR5 := Lib.hid (HR4.out.below HP10.out.blw HR4.out.lt)
    have HW5 := Lib.hid (HW4.out.trans (HP10.out.blw.mono HW4.out.size))
    clear HX4 HY4 HO4 HA4 HR4 HW4
    go_upto_region 7 with fail
    have hs9 := (HY5.out.see).alloc (Nat.le_refl _) (.cells #[] 25)
    go_wp2_with (at_builtin; refine wpList_append_any _ rfl (.tmp 35) (.tmp 36) 22 rfl W5.heap.size 25 i0 (.agg #[.int .i64 0, .int .i64 0]) 2 16 Try.underlying22 hi0 hz0 hz1 hz2 rfl (by decide) _ _ _ rfl (own_empty W5 25 2) W5.heap.size _ _ _ (prs (mkP lb)) rfl hs9 (by rw [prs_length, hny2, Nat.zero_add]) (prs_one _) ?c1 ?c2 ?c3 ?_)
    case c1 => unfold maxLen; omega
    case c2 => omega
    case c3 => simp
    intro v11 W6 ho1 hg1 _
    have HP11 : Hid (PL W5 v11 (mkP lb) W6) := PL.clone (by omega) ho1 hg1
    clear ho1 hg1 hs9
    have HU6 := Lib.hid (HP10.out.next HP11.out.blw)
    clear hnx2 hny2 HP10
    obtain ⟨Au, cu, rfl, _, _⟩ := HU6.out.slice
    obtain ⟨Av, cv, rfl, _, _⟩ := HP11.out.slice
    have HW6 := Lib.hid (HW5.out.trans (HP11.out.blw.mono HW5.out.size))
    have HK : Hid (KS w x1 x2 la (mkP la) (mkP lb) a0 Ao Ax Au Ay Av la.length la.length nx (mkP la).length ny (mkP lb).length cap0 co cx cu cy cv W6) :=
      ⟨HW6.out, HR5.out.below HP11.out.blw HR5.out.lt, HA5.out.below HP11.out.blw, HO5.out.below HP11.out.blw, HX5.out.below HP11.out.blw, HU6.out.ls (by omega), HY5.out.below HP11.out.blw, HP11.out.ls (by omega)⟩
    clear HX5 HY5 HO5 HA5 HR5 HW5 HP11 HU6 HW6
    have C := Lib.hid (pmake_ls HK.out.o)
    have p0 := HK.out.row.cell 0
    have p1 := HK.out.row.cell 1
    simp only [List.getElem?_toArray, List.getElem?_cons_zero, List.getElem?_cons_succ] at p0 p1
    go_wp2_with fail
    refine C.out.mono ?_
    rintro e W7 ⟨A, n, c, rfl, hP, hL⟩
    have D := Lib.hid (spoil_any hP)
    have HBs := Lib.hid hP.blw
    clear hP hL C p0 p1
    go_wp2_with fail
    refine D.out.mono ?_
    rintro e W8 ⟨rfl, l', hP⟩
    have HK2 := Lib.hid (HK.out.below hP.blw)
    clear hP D HK HBs
    have C := Lib.hid (padd_ls (x1, x2) HK2.out.x (mkP_srt la) (by omega))
    have p0 := HK2.out.row.cell 0
    have p1 := HK2.out.row.cell 1
    simp only [List.getElem?_toArray, List.getElem?_cons_zero, List.getElem?_cons_succ] at p0 p1
    go_wp2_with fail
    refine C.out.mono ?_
    rintro e W9 ⟨A, n, c, rfl, hP, hL⟩
    have D := Lib.hid (spoil_any hP)
    have HBs := Lib.hid hP.blw
    clear hP hL C p0 p1
    go_wp2_with fail
    refine D.out.mono ?_
    rintro e W10 ⟨rfl, l', hP⟩
    have HK3 := Lib.hid (HK2.out.below hP.blw)
    clear hP D HK2 HBs
    have C := Lib.hid (dropV_ls x1 HK3.out.x)
    have p0 := HK3.out.row.cell 0
    have p1 := HK3.out.row.cell 1
    simp only [List.getElem?_toArray, List.getElem?_cons_zero, List.getElem?_cons_succ] at p0 p1
    go_wp2_with fail
    refine C.out.mono ?_
    rintro e W11 ⟨A, n, c, rfl, hP, hL⟩
    have D := Lib.hid (spoil_any hP)
    have HBs := Lib.hid hP.blw
    clear hP hL C p0 p1
    go_wp2_with fail
    refine D.out.mono ?_
    rintro e W12 ⟨rfl, l', hP⟩
    have HK4 := Lib.hid (HK3.out.below hP.blw)
    clear hP D HK3 HBs
    have C := Lib.hid (dropL_ls x2 HK4.out.x)
    have p0 := HK4.out.row.cell 0
    have p1 := HK4.out.row.cell 1
    simp only [List.getElem?_toArray, List.getElem?_cons_zero, List.getElem?_cons_succ] at p0 p1
    go_wp2_with fail
    refine C.out.mono ?_
    rintro e W13 ⟨A, n, c, rfl, hP, hL⟩
    have D := Lib.hid (spoil_any hP)
    have HBs := Lib.hid hP.blw
    clear hP hL C p0 p1
    go_wp2_with fail
    refine D.out.mono ?_
    rintro e W14 ⟨rfl, l', hP⟩
    have HK5 := Lib.hid (HK4.out.below hP.blw)
    clear hP D HK4 HBs
    have C := Lib.hid (punion_ls HK5.out.x HK5.out.y (mkP_srt la) (mkP_srt lb) (by omega))
    have p0 := HK5.out.row.cell 0
    have p1 := HK5.out.row.cell 1
    simp only [List.getElem?_toArray, List.getElem?_cons_zero, List.getElem?_cons_succ] at p0 p1
    go_wp2_with fail
    refine C.out.mono ?_
    rintro e W15 ⟨A, n, c, rfl, hP, hL⟩
    have D := Lib.hid (spoil_any hP)
    have HBs := Lib.hid hP.blw
    clear hP hL C p0 p1
    go_wp2_with fail
    refine D.out.mono ?_
    rintro e W16 ⟨rfl, l', hP⟩
    have HK6 := Lib.hid (HK5.out.below hP.blw)
    clear hP D HK5 HBs
    have C := Lib.hid (same_lsB HK6.out.o HK6.out.a)
    rw [show decide (la = la) = true from decide_eq_true rfl] at C
    go_wp2_with fail
    refine C.out.mono ?_
    rintro e W17 ⟨rfl, hb⟩
    have HK7 := Lib.hid (HK6.out.below hb)
    clear hb C HK6
    have C := Lib.hid (same_lsB HK7.out.x HK7.out.u)
    rw [show decide ((mkP la) = (mkP la)) = true from decide_eq_true rfl] at C
    go_wp2_with fail
    refine C.out.mono ?_
    rintro e W18 ⟨rfl, hb⟩
    have HK8 := Lib.hid (HK7.out.below hb)
    clear hb C HK7
    have C := Lib.hid (same_lsB HK8.out.y HK8.out.v)
    rw [show decide ((mkP lb) = (mkP lb)) = true from decide_eq_true rfl] at C
    go_wp2_with fail
    refine C.out.mono ?_
    rintro e W19 ⟨rfl, hb⟩
    have HK9 := Lib.hid (HK8.out.below hb)
    clear hb C HK8
    go_wp2
    go_ret
    exact ⟨rfl, HK9.out.blw⟩

end Go.Proofs.Ytgnlglmhcojaiaa
