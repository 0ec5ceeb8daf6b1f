/-
  The walk of the statement on the reference.
-/
import Derived.Test.YtabebkkicpcjcaaPk7
import Derived.Test.YtabebkkicpcjcaaBcRef
namespace Go.Proofs.Ytabebkkicpcjcaa
open Go.RowKit
set_option linter.unusedVariables false

theorem sees_next {V W : World} {A : Option Addr} {xs : List Value} (hb : Below V.heap.size V W) (h : Sees V V.heap.size A xs) : Sees W W.heap.size A xs := (h.below hb).more hb.size

/-- The reference's Check over what the walks carry. -/
theorem rblk_bk {w W : World} {A1 : Option Addr} {n1 c1 : Nat} {code : List In} {A2 : Option Addr} {n2 c2 : Nat} {mach : List Mi} {bt mt : Tm} {A : Option Addr} {n c : Nat} {l : List Pr} {nR nS : Nat} {most : Int}
    (h : BK w bt mt A1 n1 c1 code A2 n2 c2 mach W) (hL : LS W A n c l) (hls : Srt l) (hn : n ≤ 100) (h1 : code.length ≤ 60) (h2 : mach.length ≤ 200) (hQ : RightQ code mach bt mt nR nS) :
    Calls Try.prog 14 #[.agg #[.slice A1 n1 c1, .int .i64 bt.kind, .int .i64 bt.a, .int .i64 bt.to, .int .i64 bt.el], .agg #[.slice A2 n2 c2, .int .i64 mt.kind, .int .i64 mt.a, .int .i64 mt.to, .int .i64 mt.el], .slice A n c, .int .i64 most] W fun x w' => ∃ A' c', x = .returned (.agg #[.slice A' ((checkE code mach bt mt (tmP bt mt) l most)).out.length c', .int .i64 ((checkE code mach bt mt (tmP bt mt) l most)).err, .int .i64 (((checkE code mach bt mt (tmP bt mt) l most)).at_ : Int), .int .i64 (((checkE code mach bt mt (tmP bt mt) l most)).steps : Int), .int .i64 (((checkE code mach bt mt (tmP bt mt) l most)).largest : Int)]) ∧ PL W (.slice A' (checkE code mach bt mt (tmP bt mt) l most).out.length c') (checkE code mach bt mt (tmP bt mt) l most).out w' := by
  obtain ⟨rfl, _, _, hs, _⟩ := hL
  have e1 := h.cs.len
  have e2 := h.ms.len
  exact rblk_any h.cs h.ms hs hls (pin_of (l := l) fun q h => h) (room_of hn) (by omega) (by omega) (by omega) (fun rows hch => blk_in hQ.ins hQ.mis (regsR_in l) (locsL_in l hQ.r hQ.s) bt mt hch) hQ.mis (by have := hQ.r; omega) (hQ.tm.mono (by omega))

set_option maxRecDepth 100000 in
set_option maxHeartbeats 16000000 in
theorem BlockcheckMatchesReference_walk (a0 a1 : Array Value) (a2 : Option Addr) (len2 cap2 : Nat) (a3 a4 a5 : Int) (w : World) (w0 : IsBlk w a0) (w1 : IsMBlk w a1) (w2 : IsPrs w a2 len2 cap2) (w3 : (Lit.int .i64 a3).wf = true) (w4 : (Lit.int .i64 a4).wf = true) (w5 : (Lit.int .i64 a5).wf = true) :
    Calls Try.prog 3 #[.agg a0, .agg a1, .slice a2 len2 cap2, .int .i64 a3, .int .i64 a4, .int .i64 a5] w fun e w' => e = .returned (.bool true) ∧ Below w.heap.size w w' := by
  obtain ⟨l, rfl, hwf, hs, hlc, hcm⟩ := w2
  obtain ⟨y1, A1, c1, rfl, hc1, hm1, hi1, hy1⟩ := w0
  obtain ⟨y2, A2, c2, rfl, hc2, hm2, hi2, hy2⟩ := w1
  obtain ⟨code, bt⟩ := y1
  obtain ⟨mach, mt⟩ := y2
  dsimp only at *
  obtain ⟨n1, hn1⟩ : ∃ n, code.length = n := ⟨_, rfl⟩
  obtain ⟨n2, hn2⟩ : ∃ n, mach.length = n := ⟨_, rfl⟩
  rw [hn1] at hc1 ⊢
  rw [hn2] at hc2 ⊢
  have AW := Lib.hid fun W => awake_any W
  have HK0 := Lib.hid (BK.start (bt := bt) (mt := mt) ⟨hn1, hc1, hm1, hi1⟩ ⟨hn2, hc2, hm2, hi2⟩)
  have HY1 := Lib.hid hy1
  have HY2 := Lib.hid hy2
  have HN1 := Lib.hid hn1
  have HN2 := Lib.hid hn2
  clear hc1 hm1 hi1 hy1 hc2 hm2 hi2 hy2 hn1 hn2
  clear w3 w4 w5 hwf
  by_cases h60 : 60 < l.length
  · have hz : (60 : Int) < (l.length : Int) := by omega
    clear hs hlc hcm h60
    go_enter Try.func3, Try.ntmps3
    go_upto_region 1 with fail
    generalize ((w.alloc (.cells #[.slice A1 n1 c1, .int .i64 bt.kind, .int .i64 bt.a, .int .i64 bt.to, .int .i64 bt.el] 26)).alloc (.cells #[.slice A2 n2 c2, .int .i64 mt.kind, .int .i64 mt.a, .int .i64 mt.to, .int .i64 mt.el] 29)) = W0 at *
    go_wp2_with fail
    refine (AW.out _).mono ?_
    rintro e W1 ⟨rfl, hb⟩
    have HK1 := Lib.hid (HK0.out.next hb)
    clear hb HK0
    go_wp2_with fail
    refine (AW.out _).mono ?_
    rintro e W9 ⟨rfl, hb⟩
    have HZ := Lib.hid (HK1.out.next hb).blw
    clear hb
    go_wp2
    go_ret
    exact ⟨rfl, HZ.out⟩
  · have hz : ¬ (60 : Int) < (l.length : Int) := by omega
    have HL0 := Lib.hid (LS.in rfl hs hlc hcm (by omega))
    have hx : (mkP l).length ≤ 60 := Nat.le_trans (mkP_len _) (by omega)
    have HSX := Lib.hid (mkP_srt l)
    clear hs hlc hcm h60
    go_enter Try.func3, Try.ntmps3
    go_upto_region 1 with fail
    have HL1 := Lib.hid (HL0.out.below HK0.out.blw)
    generalize ((w.alloc (.cells #[.slice A1 n1 c1, .int .i64 bt.kind, .int .i64 bt.a, .int .i64 bt.to, .int .i64 bt.el] 26)).alloc (.cells #[.slice A2 n2 c2, .int .i64 mt.kind, .int .i64 mt.a, .int .i64 mt.to, .int .i64 mt.el] 29)) = W0 at *
    go_wp2_with fail
    refine (AW.out _).mono ?_
    rintro e W1 ⟨rfl, hb⟩
    have HK1 := Lib.hid (HK0.out.next hb)
    have HL2 := Lib.hid (HL1.out.below hb)
    clear hb HK0 HL0 HL1
    have b0 := HK1.out.b.cell 0; have b1 := HK1.out.b.cell 1; have b2 := HK1.out.b.cell 2; have b3 := HK1.out.b.cell 3; have b4 := HK1.out.b.cell 4
    have m0 := HK1.out.m.cell 0; have m1 := HK1.out.m.cell 1; have m2 := HK1.out.m.cell 2; have m3 := HK1.out.m.cell 3; have m4 := HK1.out.m.cell 4
    simp only [List.getElem?_toArray, List.getElem?_cons_zero, List.getElem?_cons_succ] at b0 b1 b2 b3 b4 m0 m1 m2 m3 m4
    go_wp2_with fail
    refine (right_any HK1.out.cs HK1.out.ms).mono ?_
    rintro e W2 ⟨b, rfl, hb, hR⟩
    have HK2 := Lib.hid (HK1.out.next hb)
    have HL3 := Lib.hid (HL2.out.below hb)
    clear hb HK1 HL2 b0 b1 b2 b3 b4 m0 m1 m2 m3 m4
    cases b
    · clear hR
      go_wp2_with fail
      refine (AW.out _).mono ?_
      rintro e W9 ⟨rfl, hb⟩
      have HZ := Lib.hid (HK2.out.next hb).blw
      clear hb
      go_wp2
      go_ret
      exact ⟨rfl, HZ.out⟩
    · have HR := Lib.hid (hR rfl)
      clear hR AW
      have C := Lib.hid (rmake_ls HL3.out)
      go_wp2_with fail
      refine C.out.mono ?_
      rintro e W3 ⟨A, n, c, rfl, hP, hL⟩
      have HK3 := Lib.hid (HK2.out.next hP.blw)
      have HL := Lib.hid hL
      clear hP hL C HK2 HL3
      generalize mkP l = x at *
      obtain ⟨nR, nS, _, _, hQ⟩ := HR.out.ok HY1.out.1 HY1.out.2 HY2.out.1 HY2.out.2
      have hln := HL.out.len
      have hb1 := HR.out.n1
      have hb2 := HR.out.n2
      obtain ⟨r, hr⟩ : ∃ z, checkE code mach bt mt (tmP bt mt) x a3 = z := ⟨_, rfl⟩
      have hsm := small_of (most := a3) (ok := tmP bt mt) HSX.out (by omega) hQ
      rw [hr] at hsm
      have HRL := Lib.hid hsm.2.1
      have KS : Hid (∀ V, Below W3.heap.size W3 V → BK w bt mt A1 n1 c1 code A2 n2 c2 mach V ∧ LS V A n c x) := fun V h => ⟨HK3.out.next h, HL.out.below h⟩
      have C1 : Hid (∀ V, Below W3.heap.size W3 V → Calls Try.prog 13 #[.agg #[.slice A1 n1 c1, .int .i64 bt.kind, .int .i64 bt.a, .int .i64 bt.to, .int .i64 bt.el], .agg #[.slice A2 n2 c2, .int .i64 mt.kind, .int .i64 mt.a, .int .i64 mt.to, .int .i64 mt.el], .slice A n c, .int .i64 a3] V fun e w' => ∃ A' c', e = .returned (.agg #[.slice A' (r).out.length c', .int .i64 (r).err, .int .i64 ((r).at_ : Int), .int .i64 ((r).steps : Int), .int .i64 ((r).largest : Int)]) ∧ Sees w' w'.heap.size A' (prs r.out) ∧ Below W3.heap.size W3 w' ∧ Below V.heap.size V w') := fun V h => by
        have := check_bk (most := a3) (KS.out V h).1 (KS.out V h).2 HSX.out (by omega) hb1 hb2 hQ
        rw [hr] at this
        exact this.mono fun e w' ⟨A', c', he, hP⟩ => ⟨A', c', he, hP.sees, h.trans (hP.blw.mono h.size), hP.blw⟩
      have C2 : Hid (∀ V, Below W3.heap.size W3 V → Calls Try.prog 14 #[.agg #[.slice A1 n1 c1, .int .i64 bt.kind, .int .i64 bt.a, .int .i64 bt.to, .int .i64 bt.el], .agg #[.slice A2 n2 c2, .int .i64 mt.kind, .int .i64 mt.a, .int .i64 mt.to, .int .i64 mt.el], .slice A n c, .int .i64 a3] V fun e w' => ∃ A' c', e = .returned (.agg #[.slice A' (r).out.length c', .int .i64 (r).err, .int .i64 ((r).at_ : Int), .int .i64 ((r).steps : Int), .int .i64 ((r).largest : Int)]) ∧ Sees w' w'.heap.size A' (prs r.out) ∧ Below W3.heap.size W3 w' ∧ Below V.heap.size V w') := fun V h => by
        have := rblk_bk (most := a3) (KS.out V h).1 (KS.out V h).2 HSX.out (by omega) hb1 hb2 hQ
        rw [hr] at this
        exact this.mono fun e w' ⟨A', c', he, hP⟩ => ⟨A', c', he, hP.sees, h.trans (hP.blw.mono h.size), hP.blw⟩
      have C3 : Hid (∀ V A' c', Below W3.heap.size W3 V → Calls Try.prog 12 #[.agg #[.slice A' (r).out.length c', .int .i64 (r).err, .int .i64 ((r).at_ : Int), .int .i64 ((r).steps : Int), .int .i64 ((r).largest : Int)]] V fun e w' => e = .returned (.agg #[.slice A' (r).out.length c', .int .i64 (r).err, .int .i64 ((r).at_ : Int), .int .i64 ((r).steps : Int), .int .i64 ((r).largest : Int)]) ∧ Below W3.heap.size W3 w' ∧ Below V.heap.size V w') := fun V A' c' h =>
        (result_any A' r.out.length c' r.err (r.at_ : Int) (r.steps : Int) (r.largest : Int) V).mono fun e w' ⟨he, hg⟩ => ⟨he, h.trans (hg.below.mono h.size), hg.below⟩
      have C4 : Hid (∀ V A' A'' c' c'', Below W3.heap.size W3 V → Sees V V.heap.size A' (prs r.out) → Sees V V.heap.size A'' (prs r.out) → Calls Try.prog 11 #[.agg #[.slice A' (r).out.length c', .int .i64 (r).err, .int .i64 ((r).at_ : Int), .int .i64 ((r).steps : Int), .int .i64 ((r).largest : Int)], .agg #[.slice A'' (r).out.length c'', .int .i64 (r).err, .int .i64 ((r).at_ : Int), .int .i64 ((r).steps : Int), .int .i64 ((r).largest : Int)]] V fun e w' => e = .returned (.bool true) ∧ Below W3.heap.size W3 w') := fun V A' A'' c' c'' h h1 h2 =>
        (rsSame_any A' A'' r.out c' c'' r.err (r.at_ : Int) (r.steps : Int) (r.largest : Int) V h1 h2 (by have := HRL.out; omega)).mono fun e w' ⟨he, hg⟩ => ⟨he, h.trans (hg.below.mono h.size)⟩
      clear hr hsm hQ HR HY1 HY2 HL HSX
      obtain ⟨o, er, at_, st, la⟩ := r
      obtain ⟨k1, p1, q1, t1⟩ := bt
      obtain ⟨k2, p2, q2, t2⟩ := mt
      dsimp only at C1 C2 C3 C4 ⊢
      have HS : Hid (∀ w', Below W3.heap.size W3 w' → (w'.cell? ⟨w.heap.size, 0, none⟩ = some (.slice A1 n1 c1) ∧ w'.cell? ⟨w.heap.size, 1, none⟩ = some (.int .i64 k1) ∧ w'.cell? ⟨w.heap.size, 2, none⟩ = some (.int .i64 p1) ∧ w'.cell? ⟨w.heap.size, 3, none⟩ = some (.int .i64 q1) ∧ w'.cell? ⟨w.heap.size, 4, none⟩ = some (.int .i64 t1)) ∧ w'.cell? ⟨w.heap.size + 1, 0, none⟩ = some (.slice A2 n2 c2) ∧ w'.cell? ⟨w.heap.size + 1, 1, none⟩ = some (.int .i64 k2) ∧ w'.cell? ⟨w.heap.size + 1, 2, none⟩ = some (.int .i64 p2) ∧ w'.cell? ⟨w.heap.size + 1, 3, none⟩ = some (.int .i64 q2) ∧ w'.cell? ⟨w.heap.size + 1, 4, none⟩ = some (.int .i64 t2)) := fun V h =>
        have k := (KS.out V h).1
        ⟨⟨k.b.cell 0, k.b.cell 1, k.b.cell 2, k.b.cell 3, k.b.cell 4⟩, k.m.cell 0, k.m.cell 1, k.m.cell 2, k.m.cell 3, k.m.cell 4⟩
      have hG := Below.refl W3.heap.size W3
      go_wp2_with fail
      go_region_held3 (fun w' => (w'.cell? ⟨w.heap.size, 0, none⟩ = some (.slice A1 n1 c1) ∧ w'.cell? ⟨w.heap.size, 1, none⟩ = some (.int .i64 k1) ∧ w'.cell? ⟨w.heap.size, 2, none⟩ = some (.int .i64 p1) ∧ w'.cell? ⟨w.heap.size, 3, none⟩ = some (.int .i64 q1) ∧ w'.cell? ⟨w.heap.size, 4, none⟩ = some (.int .i64 t1)) ∧ w'.cell? ⟨w.heap.size + 1, 0, none⟩ = some (.slice A2 n2 c2) ∧ w'.cell? ⟨w.heap.size + 1, 1, none⟩ = some (.int .i64 k2) ∧ w'.cell? ⟨w.heap.size + 1, 2, none⟩ = some (.int .i64 p2) ∧ w'.cell? ⟨w.heap.size + 1, 3, none⟩ = some (.int .i64 q2) ∧ w'.cell? ⟨w.heap.size + 1, 4, none⟩ = some (.int .i64 t2)) (first | exact HS.out _ hG | exact HS.out _ hG.drew | exact HS.out _ (blw_drewN hG _)) (first
        | (go_at_call 13; go_must ((refine (C1.out _ (by first | exact hG | exact hG.drew | exact blw_drewN hG _ | exact (blw_drewN hG _).drew)).mono ?_); rintro e V ⟨B1, d1, rfl, hS1, hG, hV⟩; (try have hS2 := sees_next hV hS2); clear hV))
        | (go_at_call 14; go_must ((refine (C2.out _ (by first | exact hG | exact hG.drew | exact blw_drewN hG _ | exact (blw_drewN hG _).drew)).mono ?_); rintro e V ⟨B2, d2, rfl, hS2, hG, hV⟩; (try have hS1 := sees_next hV hS1); clear hV))
        | (go_at_call 12; go_must ((refine (C3.out _ _ _ (by first | exact hG | exact hG.drew | exact blw_drewN hG _ | exact (blw_drewN hG _).drew)).mono ?_); rintro e V ⟨rfl, hG, hV⟩; (try have hS1 := sees_next hV hS1); (try have hS2 := sees_next hV hS2); clear hV))
        | (go_at_call 11; go_must ((refine (C4.out _ _ _ _ _ (by first | exact hG | exact hG.drew | exact blw_drewN hG _ | exact (blw_drewN hG _).drew) hS1 hS2).mono ?_); rintro e V ⟨rfl, hG⟩))
        )
      go_wp2
      go_ret
      exact ⟨rfl, HK3.out.blw.trans (hG.mono HK3.out.blw.size)⟩

end Go.Proofs.Ytabebkkicpcjcaa
