/-
  The walk of the statement on what is kept.
-/
import Derived.Test.YtabebkkicpcjcaaPk7
import Derived.Test.YtabebkkicpcjcaaPsPut
namespace Go.Proofs.Ytabebkkicpcjcaa
open Go.RowKit
set_option linter.unusedVariables false

theorem own_some9 {w W : World} {A : Option Addr} {n c : Nat} {l : List Pr} (h : PL w (.slice A n c) l W) (hl : l.length = n) (hn : 0 < n) : ∃ g, A = some ⟨g, 0, none⟩ := by
  rcases h.own.2 with ⟨e, _⟩ | ⟨g', cap, cur, hv, _⟩
  · injection e with _ e2 _
    omega
  · injection hv with e1 _ _
    exact ⟨g', e1⟩

set_option maxRecDepth 100000 in
set_option maxHeartbeats 16000000 in
theorem BlockcheckKeeps_walk (a0 a1 : Array Value) (a2 : Option Addr) (len2 cap2 : Nat) (a3 a4 : Int) (w : World) (w0 : IsBlk w a0) (w1 : IsMBlk w a1) (w2 : IsPrs w a2 len2 cap2) (w3 : (Lit.int .i64 a3).wf = true) (w4 : (Lit.int .i64 a4).wf = true) :
    Calls Try.prog 7 #[.agg a0, .agg a1, .slice a2 len2 cap2, .int .i64 a3, .int .i64 a4] w fun e w' => e = .returned (.bool true) ∧ Below w.heap.size w w' := by
  obtain ⟨l, rfl, hwf, hs, hlc, hcm⟩ := w2
  obtain ⟨y1, A1, c1, rfl, hc1, hm1, hi1, hy1⟩ := w0
  obtain ⟨y2, A2, c2, rfl, hc2, hm2, hi2, hy2⟩ := w1
  obtain ⟨code, bt⟩ := y1
  obtain ⟨mach, mt⟩ := y2
  dsimp only at *
  obtain ⟨n1, hn1⟩ : ∃ n, code.length = n := ⟨_, rfl⟩
  obtain ⟨n2, hn2⟩ : ∃ n, mach.length = n := ⟨_, rfl⟩
  rw [hn1] at hc1 ⊢
  rw [hn2] at hc2 ⊢
  have AW := Lib.hid fun W => awake_any W
  have HK0 := Lib.hid (BK.start (bt := bt) (mt := mt) ⟨hn1, hc1, hm1, hi1⟩ ⟨hn2, hc2, hm2, hi2⟩)
  have HY1 := Lib.hid hy1
  have HY2 := Lib.hid hy2
  have HN1 := Lib.hid hn1
  have HN2 := Lib.hid hn2
  clear hc1 hm1 hi1 hy1 hc2 hm2 hi2 hy2 hn1 hn2
  obtain ⟨i0, hi0, hz0, hz1, hz2⟩ := info_pr
  clear w3 w4 hwf
  by_cases h60 : 60 < l.length
  · have hz : (60 : Int) < (l.length : Int) := by omega
    clear hs hlc hcm h60
    go_enter Try.func7, Try.ntmps7
    go_upto_region 1 with fail
    generalize ((w.alloc (.cells #[.slice A1 n1 c1, .int .i64 bt.kind, .int .i64 bt.a, .int .i64 bt.to, .int .i64 bt.el] 26)).alloc (.cells #[.slice A2 n2 c2, .int .i64 mt.kind, .int .i64 mt.a, .int .i64 mt.to, .int .i64 mt.el] 29)) = W0 at *
    go_wp2_with fail
    refine (AW.out _).mono ?_
    rintro e W1 ⟨rfl, hb⟩
    have HK1 := Lib.hid (HK0.out.next hb)
    clear hb HK0
    go_wp2_with fail
    refine (AW.out _).mono ?_
    rintro e W9 ⟨rfl, hb⟩
    have HZ := Lib.hid (HK1.out.next hb).blw
    clear hb
    go_wp2
    go_ret
    exact ⟨rfl, HZ.out⟩
  · have hz : ¬ (60 : Int) < (l.length : Int) := by omega
    have HL0 := Lib.hid (LS.in rfl hs hlc hcm (by omega))
    have hx : (mkP l).length ≤ 60 := Nat.le_trans (mkP_len _) (by omega)
    have HSX := Lib.hid (mkP_srt l)
    clear hs hlc hcm h60
    go_enter Try.func7, Try.ntmps7
    go_upto_region 1 with fail
    have HL1 := Lib.hid (HL0.out.below HK0.out.blw)
    generalize ((w.alloc (.cells #[.slice A1 n1 c1, .int .i64 bt.kind, .int .i64 bt.a, .int .i64 bt.to, .int .i64 bt.el] 26)).alloc (.cells #[.slice A2 n2 c2, .int .i64 mt.kind, .int .i64 mt.a, .int .i64 mt.to, .int .i64 mt.el] 29)) = W0 at *
    go_wp2_with fail
    refine (AW.out _).mono ?_
    rintro e W1 ⟨rfl, hb⟩
    have HK1 := Lib.hid (HK0.out.next hb)
    have HL2 := Lib.hid (HL1.out.below hb)
    clear hb HK0 HL0 HL1
    have b0 := HK1.out.b.cell 0; have b1 := HK1.out.b.cell 1; have b2 := HK1.out.b.cell 2; have b3 := HK1.out.b.cell 3; have b4 := HK1.out.b.cell 4
    have m0 := HK1.out.m.cell 0; have m1 := HK1.out.m.cell 1; have m2 := HK1.out.m.cell 2; have m3 := HK1.out.m.cell 3; have m4 := HK1.out.m.cell 4
    simp only [List.getElem?_toArray, List.getElem?_cons_zero, List.getElem?_cons_succ] at b0 b1 b2 b3 b4 m0 m1 m2 m3 m4
    go_wp2_with fail
    refine (right_any HK1.out.cs HK1.out.ms).mono ?_
    rintro e W2 ⟨b, rfl, hb, hR⟩
    have HK2 := Lib.hid (HK1.out.next hb)
    have HL3 := Lib.hid (HL2.out.below hb)
    clear hb HK1 HL2 b0 b1 b2 b3 b4 m0 m1 m2 m3 m4
    cases b
    · clear hR
      go_wp2_with fail
      refine (AW.out _).mono ?_
      rintro e W9 ⟨rfl, hb⟩
      have HZ := Lib.hid (HK2.out.next hb).blw
      clear hb
      go_wp2
      go_ret
      exact ⟨rfl, HZ.out⟩
    · have HR := Lib.hid (hR rfl)
      clear hR AW
      have C := Lib.hid (rmake_ls HL3.out)
      go_wp2_with fail
      refine C.out.mono ?_
      rintro e W3 ⟨A, n, c, rfl, hP, hL⟩
      have HK3 := Lib.hid (HK2.out.next hP.blw)
      have HL := Lib.hid hL
      clear hP hL C HK2 HL3
      have hxn : (mkP l).length = 0 + n := by have := HL.out.len; omega
      have hn : n ≤ 60 := by omega
      generalize mkP l = x at *
      obtain ⟨nR, nS, _, _, hQ⟩ := HR.out.ok HY1.out.1 HY1.out.2 HY2.out.1 HY2.out.2
      have hb1 := HR.out.n1
      have hb2 := HR.out.n2
      go_upto_region 4 with fail
      have hs9 := (HL.out.see).alloc (Nat.le_refl _) (.cells #[] 48)
      go_wp2_with (at_builtin; refine wpList_append_any _ rfl (.tmp 33) (.tmp 34) 30 rfl W3.heap.size 48 i0 (.agg #[.int .i64 0, .int .i64 0]) 2 16 Try.underlying30 hi0 hz0 hz1 hz2 rfl (by decide) _ _ _ rfl (own_empty W3 48 2) W3.heap.size _ _ _ (prs x) rfl hs9 (by rw [prs_length, hxn, Nat.zero_add]) (prs_one _) ?c1 ?c2 ?c3 ?_)
      case c1 => unfold maxLen; omega
      case c2 => omega
      case c3 => simp
      intro v4 W4 ho1 hg1 _
      have HP4 : Hid (PL W3 v4 x W4) := PL.clone (by omega) ho1 hg1
      clear ho1 hg1 hs9
      have HO4 := Lib.hid (HP4.out.slice)
      obtain ⟨Ao, co, rfl, _, _⟩ := HO4.out
      have hO4 := HP4.out.ls (by omega)
      rw [hxn, Nat.zero_add] at hO4
      rw [show x.length = n by omega]
      have HO5 := Lib.hid hO4
      have HX5 := Lib.hid (HL.out.below HP4.out.blw)
      have HK4 := Lib.hid (HK3.out.next HP4.out.blw)
      clear hO4 HO4 HL HK3 HP4 hx hi0 hz0 hz1 hz2
      obtain ⟨r, hr⟩ : ∃ z, checkE code mach bt mt (tmP bt mt) x 1000 = z := ⟨_, rfl⟩
      have C := Lib.hid (check_bk (most := 1000) HK4.out HX5.out HSX.out (by omega) hb1 hb2 hQ)
      have HSM := Lib.hid (small_of (most := 1000) (ok := tmP bt mt) HSX.out (by omega) hQ)
      rw [hr] at C HSM
      have hrl := HSM.out.2.1
      clear hQ HR HY1 HY2 HSX HSM hr hxn
      have b0 := HK4.out.b.cell 0; have b1 := HK4.out.b.cell 1; have b2 := HK4.out.b.cell 2; have b3 := HK4.out.b.cell 3; have b4 := HK4.out.b.cell 4
      have m0 := HK4.out.m.cell 0; have m1 := HK4.out.m.cell 1; have m2 := HK4.out.m.cell 2; have m3 := HK4.out.m.cell 3; have m4 := HK4.out.m.cell 4
      simp only [List.getElem?_toArray, List.getElem?_cons_zero, List.getElem?_cons_succ] at b0 b1 b2 b3 b4 m0 m1 m2 m3 m4
      go_wp2_with fail
      refine C.out.mono ?_
      rintro e W5 ⟨A', c', rfl, hP⟩
      clear C b0 b1 b2 b3 b4 m0 m1 m2 m3 m4
      go_upto_region 6 with fail
      have HRW := Lib.hid (Row.new W5 40 #[.slice A' (r).out.length c', .int .i64 (r).err, .int .i64 ((r).at_ : Int), .int .i64 ((r).steps : Int), .int .i64 ((r).largest : Int)])
      have HP5 : Hid (PL W4 (.slice A' r.out.length c') r.out (W5.alloc (.cells #[.slice A' (r).out.length c', .int .i64 (r).err, .int .i64 ((r).at_ : Int), .int .i64 ((r).steps : Int), .int .i64 ((r).largest : Int)] 40))) := hP.alloc _
      clear hP
      generalize W5.alloc (.cells #[.slice A' (r).out.length c', .int .i64 (r).err, .int .i64 ((r).at_ : Int), .int .i64 ((r).steps : Int), .int .i64 ((r).largest : Int)] 40) = W6 at *
      generalize W5.heap.size = rb at *
      go_wp2
      go_loopg [14] r.out.length (fun g v wr => ∃ (k : Nat) (xs : List Pr), k + g = r.out.length ∧ v = .int .i64 k ∧ xs.length = r.out.length ∧ Hid (PL W4 (.slice A' r.out.length c') xs wr) ∧ Hid (Row wr rb 40 #[.slice A' (r).out.length c', .int .i64 (r).err, .int .i64 ((r).at_ : Int), .int .i64 ((r).steps : Int), .int .i64 ((r).largest : Int)]))
      case atStart => exact ⟨0, r.out, by omega, by go_num, rfl, HP5.out, HRW.out⟩
      case round =>
        clear HP5 HRW
        obtain ⟨k, xs, hg, rfl, hxl, HP, HRW⟩ := hrel
        have r0 := HRW.out.cell 0
        simp only [List.getElem?_toArray, List.getElem?_cons_zero] at r0
        by_cases hlt : k < r.out.length
        · have hkz : (k : Int) < (r.out.length : Int) := by omega
          obtain ⟨gb, rfl⟩ := own_some9 HP.out hxl (by omega)
          obtain ⟨b2, o2, eC, _, f0, f1⟩ := sees_pair HP.out.sees (show k < xs.length by omega)
          injection eC with eC
          injection eC with eC1 eC2
          subst eC1 eC2
          rw [Nat.zero_add] at f0 f1
          have q0 : wr.frozen? ⟨gb, k * 2, none⟩ = false := own_fr HP.out _
          have HPN := Lib.hid (HP.out.put1 hxl (k := k) (by omega) (-3))
          have hne : ¬ rb = gb := fun e => own_row_neS HP.out.own HRW.out (by decide) gb rfl e.symm
          have HRN := Lib.hid (HRW.out.far (q := ⟨gb, k * 2, none⟩) hne (.int .i64 (-3)))
          go_wp2
          go_roundg (r.out.length - (k + 1))
          case measure => omega
          case rel => exact ⟨k + 1, _, by omega, by go_num, by rw [List.length_set]; exact hxl, HPN.out, HRN.out⟩
        · have hkz : ¬ (k : Int) < (r.out.length : Int) := by omega
          have D := Lib.hid (same_lsB (HX5.out.below HP.out.blw) (HO5.out.below HP.out.blw))
          rw [show decide (x = x) = true from decide_eq_true rfl] at D
          have HB := Lib.hid (HK4.out.next HP.out.blw).blw
          clear HP HRW hxl hg hlt HX5 HO5 HK4
          go_wp2_with fail
          refine D.out.mono ?_
          rintro e W7 ⟨rfl, hb⟩
          have HZ := Lib.hid (HB.out.trans (hb.mono HB.out.size))
          clear hb D HB
          go_wp2
          go_ret
          exact ⟨rfl, HZ.out⟩

end Go.Proofs.Ytabebkkicpcjcaa
