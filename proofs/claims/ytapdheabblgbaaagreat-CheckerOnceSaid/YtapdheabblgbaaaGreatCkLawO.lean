/-
  The walk of the statement on the counts.
-/
import Derived.Test.YtapdheabblgbaaaGreatCkAwk
import Derived.Test.YtapdheabblgbaaaGreatSucOwn
import Derived.Deep.Cut
import Derived.Deep.CutRange
import Derived.Deep.RegionHeld3
namespace Go.Proofs.YtapdheabblgbaaaGreat
open Go.RowKit Go.Deep
set_option linter.unusedVariables false
set_option linter.unusedSimpArgs false

/-- What the walk carries: the certificate, and the report in its block. -/
structure CO (w : World) (A1 : Option Addr) (k1 : Nat) (A2 : Option Addr) (k2 : Nat) (A3 : Option Addr) (k3 : Nat) (c : Ct) (rb : Nat) (r : Rp) (W : World) : Prop where
  k : CeK w w.heap.size A1 k1 A2 k2 A3 k3 c W
  row : Row W rb 37 #[.int .i64 r.err, .int .i64 (r.blk : Int), .int .i64 (r.at_ : Int), .int .i64 (r.blocks : Int), .int .i64 (r.edges : Int), .int .i64 (r.steps : Int), .int .i64 (r.largest : Int)]
  lt : w.heap.size < rb
theorem CO.next {w W W' : World} {A1 : Option Addr} {k1 : Nat} {A2 : Option Addr} {k2 : Nat} {A3 : Option Addr} {k3 : Nat} {c : Ct} {rb : Nat} {r : Rp} (h : CO w A1 k1 A2 k2 A3 k3 c rb r W) (hb : Below W.heap.size W W') : CO w A1 k1 A2 k2 A3 k3 c rb r W' :=
  ⟨h.k.next hb, h.row.below hb h.row.lt, h.lt⟩

theorem CO.drewN {w W : World} {A1 : Option Addr} {k1 : Nat} {A2 : Option Addr} {k2 : Nat} {A3 : Option Addr} {k3 : Nat} {c : Ct} {rb : Nat} {r : Rp} (h : CO w A1 k1 A2 k2 A3 k3 c rb r W) (n : Nat) : CO w A1 k1 A2 k2 A3 k3 c rb r (W.drewN n) := h.next (Grew.drewN (Grew.refl W) n).below
theorem CO.drew {w W : World} {A1 : Option Addr} {k1 : Nat} {A2 : Option Addr} {k2 : Nat} {A3 : Option Addr} {k3 : Nat} {c : Ct} {rb : Nat} {r : Rp} (h : CO w A1 k1 A2 k2 A3 k3 c rb r W) : CO w A1 k1 A2 k2 A3 k3 c rb r W.drew := h.drewN 1
theorem CO.cells {w W : World} {A1 : Option Addr} {k1 : Nat} {A2 : Option Addr} {k2 : Nat} {A3 : Option Addr} {k3 : Nat} {c : Ct} {rb : Nat} {r : Rp} (h : CO w A1 k1 A2 k2 A3 k3 c rb r W) : CO w A1 k1 A2 k2 A3 k3 c rb r W ∧ W.cell? ⟨w.heap.size, 0, none⟩ = some (.int .i64 c.sa) ∧ W.cell? ⟨w.heap.size, 1, none⟩ = some (.int .i64 c.sr) ∧ W.cell? ⟨w.heap.size, 2, none⟩ = some (.slice A1 c.bs.length k1) ∧ W.cell? ⟨w.heap.size, 3, none⟩ = some (.int .i64 c.ta) ∧ W.cell? ⟨w.heap.size, 4, none⟩ = some (.int .i64 c.tr) ∧ W.cell? ⟨w.heap.size, 5, none⟩ = some (.int .i64 c.ts) ∧ W.cell? ⟨w.heap.size, 6, none⟩ = some (.slice A2 c.ms.length k2) ∧ W.cell? ⟨w.heap.size, 7, none⟩ = some (.slice A3 c.inv.length k3) ∧ W.cell? ⟨rb, 0, none⟩ = some (.int .i64 r.err) ∧ W.cell? ⟨rb, 3, none⟩ = some (.int .i64 (r.blocks : Int)) ∧ W.cell? ⟨rb, 4, none⟩ = some (.int .i64 (r.edges : Int)) ∧ W.cell? ⟨rb, 5, none⟩ = some (.int .i64 (r.steps : Int)) ∧ W.cell? ⟨rb, 6, none⟩ = some (.int .i64 (r.largest : Int)) :=
  ⟨h, h.k.row.cell 0, h.k.row.cell 1, h.k.row.cell 2, h.k.row.cell 3, h.k.row.cell 4, h.k.row.cell 5, h.k.row.cell 6, h.k.row.cell 7, h.row.cell 0, h.row.cell 3, h.row.cell 4, h.row.cell 5, h.row.cell 6⟩
theorem edgeR_lar (c : Ct) (out : List Pr) (i : Nat) (t : Int) (k : Nat) (r : Rp) : (edgeR c out i t k r).largest = r.largest := by unfold edgeR; split <;> rfl
theorem edgesR_lar (c : Ct) (out : List Pr) (i : Nat) : ∀ (ts : List Int) (k : Nat) (r : Rp), (edgesR c out i ts k r).largest = r.largest
  | [], _, _ => rfl
  | t :: ts, k, r => by
    unfold edgesR
    split
    · rw [edgesR_lar c out i ts, edgeR_lar]
    · rw [edgeR_lar]
theorem blkR2_lar (c : Ct) (i : Nat) (r : Rp) : (blkR2 c i r).largest = max r.largest (ckB c i).largest := by
  unfold blkR2
  split
  · rw [edgesR_lar]; rfl
  · rfl
theorem blksR_lar {c : Ct} {N n m : Nat} (h : FitC c N n m) : ∀ (k i : Nat) (r : Rp), i + k ≤ c.bs.length → r.largest ≤ 400000 → (blksR c k i r).largest ≤ 400000
  | 0, _, _, _, hr => hr
  | k + 1, i, r, hi, hr => by
    have h1 : (blkR2 c i r).largest ≤ 400000 := by rw [blkR2_lar]; exact Nat.max_le.2 ⟨hr, (h.small (by omega)).2.2.2.1⟩
    unfold blksR
    split
    · exact blksR_lar h k (i + 1) _ (by omega) h1
    · exact h1
theorem checkC_lar {c : Ct} {N n m : Nat} (h : FitC c N n m) : (checkC c).largest ≤ 400000 := by
  have h0 : maxI c.inv ≤ 400000 := by
    have := maxI_bd (m := 400) fun l hl => (h.inv l hl).2.1
    omega
  unfold checkC
  split
  · exact Nat.zero_le _
  · split
    · exact blksR_lar h _ _ _ (by omega) h0
    · exact h0
theorem succs_two (t : Tm) : (succs t).length ≤ 2 := by
  unfold succs
  split
  · simp
  · split <;> simp
theorem edN_two : ∀ bs : List Blk, edN bs ≤ 2 * bs.length
  | [] => Nat.le_refl _
  | b :: bs => by
    have h1 := edN_two bs
    have h2 := succs_two b.term
    unfold edN at *
    rw [List.map_cons, List.sum_cons, List.length_cons]
    omega

set_option maxRecDepth 100000 in
set_option maxHeartbeats 16000000 in
theorem CheckerOnce_walk (a0 : Array Value) (w : World) (w0 : IsCert w a0) :
    Calls Tryz.prog 5 #[.agg a0] w fun e w' => e = .returned (.bool true) ∧ Below w.heap.size w w' := by
  have mixed : Tryz.prog.follows .mixedOrders = true := by kernel_rfl
  obtain ⟨c, A1, k1, A2, k2, A3, k3, rfl, hce, hwf⟩ := w0
  have AW : Hid (∀ W, Calls Tryz.prog 9 #[] W fun e w' => e = .returned (.bool true) ∧ Below W.heap.size W w') := fun W => ckawake_any W
  have HK := Lib.hid (CeK.start hce)
  have HWF := Lib.hid hwf
  have hm1 : c.bs.length ≤ 9223372036854775807 := by have := hce.l1; unfold maxLen at this; omega
  clear hce hwf
  go_enter Tryz.func5, Tryz.ntmps5
  go_upto_region 1 with fail
  have hz0 : w.heap.size < (w.alloc (.cells #[.int .i64 c.sa, .int .i64 c.sr, .slice A1 c.bs.length k1, .int .i64 c.ta, .int .i64 c.tr, .int .i64 c.ts, .slice A2 c.ms.length k2, .slice A3 c.inv.length k3] 30)).heap.size := by simp
  generalize (w.alloc (.cells #[.int .i64 c.sa, .int .i64 c.sr, .slice A1 c.bs.length k1, .int .i64 c.ta, .int .i64 c.tr, .int .i64 c.ts, .slice A2 c.ms.length k2, .slice A3 c.inv.length k3] 30)) = W0 at *
  go_wp2_with fail
  refine (AW.out _).mono ?_
  rintro e W1 ⟨rfl, hb⟩
  have HK1 := Lib.hid (HK.out.next hb)
  clear hb HK hz0
  have c0 := HK1.out.row.cell 0; have c1 := HK1.out.row.cell 1; have c2 := HK1.out.row.cell 2; have c3 := HK1.out.row.cell 3
  have c4 := HK1.out.row.cell 4; have c5 := HK1.out.row.cell 5; have c6 := HK1.out.row.cell 6; have c7 := HK1.out.row.cell 7
  simp only [List.getElem?_toArray, List.getElem?_cons_zero, List.getElem?_cons_succ] at c0 c1 c2 c3 c4 c5 c6 c7
  go_wp2_with fail
  refine (rckfew_any W1 (HK1.out.see.more HK1.out.blw.size)).mono ?_
  rintro e W2 ⟨⟨b, rfl, hF⟩, hb⟩
  have HK2 := Lib.hid (HK1.out.next hb)
  clear hb HK1
  clear c0 c1 c2 c3 c4 c5 c6 c7
  cases b
  · go_wp2_with fail
    refine (AW.out _).mono ?_
    rintro e W9 ⟨rfl, hb⟩
    have HZ := Lib.hid (HK2.out.next hb)
    clear hb HK2
    go_wp2
    go_ret
    exact ⟨rfl, HZ.out.blw⟩
  · have HSM := Lib.hid (hF rfl)
    clear hF
    have c0 := HK2.out.row.cell 0; have c1 := HK2.out.row.cell 1; have c2 := HK2.out.row.cell 2; have c3 := HK2.out.row.cell 3
    have c4 := HK2.out.row.cell 4; have c5 := HK2.out.row.cell 5; have c6 := HK2.out.row.cell 6; have c7 := HK2.out.row.cell 7
    simp only [List.getElem?_toArray, List.getElem?_cons_zero, List.getElem?_cons_succ] at c0 c1 c2 c3 c4 c5 c6 c7
    go_wp2_with fail
    refine (pckcheck_any W2 (HK2.out.see.more HK2.out.blw.size) HSM.out HWF.out).mono ?_
    rintro e W3 ⟨rfl, hb⟩
    clear c0 c1 c2 c3 c4 c5 c6 c7
    obtain ⟨r, hr⟩ : ∃ z, z = checkC c := ⟨_, rfl⟩
    rw [← hr]
    have HR := Lib.hid hr
    have hba := (Below.refl W3.heap.size W3).alloc (Nat.le_refl _) (.cells #[.int .i64 r.err, .int .i64 (r.blk : Int), .int .i64 (r.at_ : Int), .int .i64 (r.blocks : Int), .int .i64 (r.edges : Int), .int .i64 (r.steps : Int), .int .i64 (r.largest : Int)] 37)
    have HO4 : Hid (CO w A1 k1 A2 k2 A3 k3 c W3.heap.size r (W3.alloc (.cells #[.int .i64 r.err, .int .i64 (r.blk : Int), .int .i64 (r.at_ : Int), .int .i64 (r.blocks : Int), .int .i64 (r.edges : Int), .int .i64 (r.steps : Int), .int .i64 (r.largest : Int)] 37))) := ⟨(HK2.out.next hb).next hba, Row.new _ _ _, Nat.lt_of_lt_of_le HK2.out.row.lt hb.size⟩
    clear hb hba HK2 hr
    go_upto_region 4 with fail
    generalize (W3.alloc (.cells #[.int .i64 r.err, .int .i64 (r.blk : Int), .int .i64 (r.at_ : Int), .int .i64 (r.blocks : Int), .int .i64 (r.edges : Int), .int .i64 (r.steps : Int), .int .i64 (r.largest : Int)] 37)) = W4 at *
    generalize W3.heap.size = rb at *
    have HK4 := Lib.hid HO4.out.k
    have c0 := HK4.out.row.cell 0; have c1 := HK4.out.row.cell 1; have c2 := HK4.out.row.cell 2; have c3 := HK4.out.row.cell 3
    have c4 := HK4.out.row.cell 4; have c5 := HK4.out.row.cell 5; have c6 := HK4.out.row.cell 6; have c7 := HK4.out.row.cell 7
    simp only [List.getElem?_toArray, List.getElem?_cons_zero, List.getElem?_cons_succ] at c0 c1 c2 c3 c4 c5 c6 c7
    go_wp2_with fail
    refine (rckvalid_any W4 (HK4.out.see.more HK4.out.blw.size) HSM.out HWF.out).mono ?_
    rintro e W5 ⟨rfl, hb⟩
    clear c0 c1 c2 c3 c4 c5 c6 c7
    have HO5 := Lib.hid (HO4.out.next hb)
    clear hb HO4 HK4
    by_cases hv : validC c = 0
    · have hv1 : (validC c != 0) = false := by simp [hv]
      have HV := Lib.hid hv
      have HON := Lib.hid (checkC_once hv)
      clear hv
      have HE0 : Hid (edN (c.bs.take 0) = 0) := rfl
      have H40 : Hid (c.bs.length ≤ 40) := HSM.out.f.1
      obtain ⟨N, hN⟩ : ∃ z, z = c.bs.length := ⟨_, rfl⟩
      have HN := Lib.hid hN
      have hN40 : N ≤ 40 := by rw [hN]; exact H40.out
      clear hN
      go_wp2
      go_loopg [4, 5] N (fun g s4 s5 wr => ∃ (k E : Nat), k + g = N ∧ s4 = .int .i64 (E : Int) ∧ s5 = .int .i64 (k : Int) ∧ Hid (edN (c.bs.take k) = E) ∧ Hid (CO w A1 k1 A2 k2 A3 k3 c rb r wr))
      case atStart => exact ⟨0, 0, by omega, rfl, rfl, HE0.out, HO5.out⟩
      case round =>
        clear HO5
        obtain ⟨k, E, hk, rfl, rfl, HE, HO⟩ := hrel
        have HK := Lib.hid HO.out.k
        have c0 := HK.out.row.cell 0; have c1 := HK.out.row.cell 1; have c2 := HK.out.row.cell 2; have c3 := HK.out.row.cell 3
        have c4 := HK.out.row.cell 4; have c5 := HK.out.row.cell 5; have c6 := HK.out.row.cell 6; have c7 := HK.out.row.cell 7
        simp only [List.getElem?_toArray, List.getElem?_cons_zero, List.getElem?_cons_succ] at c0 c1 c2 c3 c4 c5 c6 c7
        rw [← HN.out] at c2
        cases gk with
        | zero =>
          obtain rfl : k = N := by omega
          have hkl := HN.out
          subst hkl
          have hE := HE.out
          rw [List.take_length] at hE
          obtain ⟨o1, o2, o3, o4⟩ := HON.out
          obtain ⟨N, n, m, hfit⟩ := fitC_of HV.out HSM.out HWF.out
          have hlar := checkC_lar hfit
          rw [← HR.out] at o1 o2 o3 o4 hlar
          rw [hE] at o2 o4
          have hz0 : w.heap.size < wr.heap.size := HK.out.row.lt
          have C11 : Hid (∀ W, CO w A1 k1 A2 k2 A3 k3 c rb r W → Calls Tryz.prog 17 #[.agg #[.int .i64 c.sa, .int .i64 c.sr, .slice A1 c.bs.length k1, .int .i64 c.ta, .int .i64 c.tr, .int .i64 c.ts, .slice A2 c.ms.length k2, .slice A3 c.inv.length k3], .int .i64 (r.largest : Int)] W fun e w' => e = .returned (.int .i64 (boundC c r.largest : Int)) ∧ CO w A1 k1 A2 k2 A3 k3 c rb r w') := fun W h =>
            (pbound_any W (h.k.see.more h.k.blw.size) HSM.out HWF.out HV.out r.largest hlar).mono fun e w' ⟨he, hb⟩ => ⟨he, h.next hb⟩
          have d1 : decide (c.bs.length < r.blocks) = false := by simp; omega
          have d2 : decide (E < r.edges) = false := by simp; omega
          have d3 : decide (boundC c r.largest < r.steps) = false := by simp; omega
          generalize boundC c r.largest = BB at *
          have HO4 := Lib.hid o4
          have hG := HO.out
          clear o1 o2 o3 o4 hE HE HN hlar hfit HR HON HE0 H40 hk HO HK
          go_wp2_with fail
          go_region_held3 (fun w' => CO w A1 k1 A2 k2 A3 k3 c rb r w' ∧ w'.cell? ⟨w.heap.size, 0, none⟩ = some (.int .i64 c.sa) ∧ w'.cell? ⟨w.heap.size, 1, none⟩ = some (.int .i64 c.sr) ∧ w'.cell? ⟨w.heap.size, 2, none⟩ = some (.slice A1 c.bs.length k1) ∧ w'.cell? ⟨w.heap.size, 3, none⟩ = some (.int .i64 c.ta) ∧ w'.cell? ⟨w.heap.size, 4, none⟩ = some (.int .i64 c.tr) ∧ w'.cell? ⟨w.heap.size, 5, none⟩ = some (.int .i64 c.ts) ∧ w'.cell? ⟨w.heap.size, 6, none⟩ = some (.slice A2 c.ms.length k2) ∧ w'.cell? ⟨w.heap.size, 7, none⟩ = some (.slice A3 c.inv.length k3) ∧ w'.cell? ⟨rb, 0, none⟩ = some (.int .i64 r.err) ∧ w'.cell? ⟨rb, 3, none⟩ = some (.int .i64 (r.blocks : Int)) ∧ w'.cell? ⟨rb, 4, none⟩ = some (.int .i64 (r.edges : Int)) ∧ w'.cell? ⟨rb, 5, none⟩ = some (.int .i64 (r.steps : Int)) ∧ w'.cell? ⟨rb, 6, none⟩ = some (.int .i64 (r.largest : Int))) (first | exact hG.cells | exact hG.drew.cells | exact (hG.drewN _).cells) (first
            | (go_at_call 17; go_must ((with_reducible refine (C11.out _ (by first | exact hG | exact hG.drew | exact hG.drewN _)).mono ?_); rintro e W3 ⟨rfl, hG⟩)))
          clear c0 c1 c2 c3 c4 c5 c6 c7 C11 d1 d2 d3
          have HB9 := Lib.hid hG.k.blw
          by_cases h0 : r.err = 0
          · obtain ⟨p1, p2⟩ := HO4.out h0
            have q0 : (r.err != 0) = false := by simp [h0]
            have q1 : ((r.blocks : Int) == (c.bs.length : Int)) = true := by simp [p1]
            have q2 : ((r.edges : Int) == (E : Int)) = true := by simp [p2]
            clear h0 p1 p2 HO4
            go_wp2
            go_ret
            exact ⟨rfl, HB9.out⟩
          · have q0 : (r.err != 0) = true := by simp [h0]
            clear h0 HO4
            go_wp2
            go_ret
            exact ⟨rfl, HB9.out⟩
        | succ g =>
          have hkn : (k : Int) < (N : Int) := by omega
          have hib : k < c.bs.length := by rw [← HN.out]; omega
          obtain ⟨b1, o1, rfl, hb1, hB1⟩ := HK.out.see.bs.at_ hib
          have hE1 := edN_step c.bs k hib
          rw [HE.out] at hE1
          have hE2 := edN_two (c.bs.take (k + 1))
          rw [List.length_take, Nat.min_eq_left (by omega)] at hE2
          have hs2 := succs_two c.bs[k].term
          have F11 := hB1.t0; have F12 := hB1.t1; have F13 := hB1.t2; have F14 := hB1.t3
          obtain ⟨t, ht⟩ : ∃ z, z = c.bs[k].term := ⟨_, rfl⟩
          rw [← ht] at F11 F12 F13 F14 hE1 hs2
          have HE1 := Lib.hid hE1
          have HB1 : Hid (E + (succs t).length ≤ 80) := by show _ ≤ _; omega
          have HS2 := Lib.hid hs2
          clear hE1 hE2 hB1 ht hs2
          go_wp2_with fail
          refine (rsucc_own t wr).mono ?_
          rintro e W6 ⟨A, cc, rfl, _, _, _, hb, _⟩
          have HO6 := Lib.hid (HO.out.next hb)
          clear hb HO HK
          clear c0 c1 c2 c3 c4 c5 c6 c7
          clear F11 F12 F13 F14
          have hES := HB1.out
          generalize (succs t).length = S at *
          go_wp2
          go_roundg g
          case measure => omega
          case rel => exact ⟨k + 1, E + S, by omega, by go_num, by go_num, HE1.out, HO6.out⟩
    · have hv1 : (validC c != 0) = true := by simp [hv]
      have hr : r = ⟨validC c, 0, 0, 0, 0, 0, 0⟩ := by rw [HR.out]; unfold checkC; rw [if_pos hv]
      subst hr
      clear hv HR
      have r0 := HO5.out.row.cell 0; have r1 := HO5.out.row.cell 1; have r2 := HO5.out.row.cell 2; have r3 := HO5.out.row.cell 3
      have r4 := HO5.out.row.cell 4; have r5 := HO5.out.row.cell 5; have r6 := HO5.out.row.cell 6
      simp only [List.getElem?_toArray, List.getElem?_cons_zero, List.getElem?_cons_succ] at r0 r1 r2 r3 r4 r5 r6
      go_wp2
      go_ret
      exact ⟨rfl, HO5.out.k.blw⟩
end Go.Proofs.YtapdheabblgbaaaGreat
