/-
  The program's invariant and Valid of layer 15.
-/
import Derived.Test.YtcoehkphdfejjaaGreatEdFn
namespace Go.Proofs.YtcoehkphdfejjaaGreat
open Go.RowKit
set_option linter.unusedVariables false

set_option maxRecDepth 100000 in
set_option maxHeartbeats 8000000 in
theorem pinv_any (B : Nat) (A : Option Addr) (l : List Pr) (c : Nat) (v r s : Int) (w : World) (hs : Sees w B A (prs l)) (hB : B ≤ w.heap.size) (hm : l.length ≤ 1000) (hw : ∀ p ∈ l, PrWf p) :
    Calls Tryz.prog 54 #[.slice A l.length c, .int .i64 v, .int .i64 r, .int .i64 s] w fun e w' => e = .returned (.int .i64 (vlE v r s none l)) ∧ Grew w w' := by
  have mixed : Tryz.prog.follows .mixedOrders = true := by kernel_rfl
  have HPW := Lib.hid hw
  have HSI := Lib.hid hs
  clear hs hw
  obtain ⟨m, hml⟩ : ∃ m, m = l.length := ⟨_, rfl⟩
  rw [← hml] at hm ⊢
  have HML := Lib.hid hml
  obtain ⟨F, hF⟩ : ∃ z, z = vlE v r s none l := ⟨_, rfl⟩
  have HF : Hid (vlE v r s (bef l 0) (l.drop 0) = F) := hF.symm
  rw [← hF]
  clear hF hml
  go_enter Tryz.func54, Tryz.ntmps54
  go_wp2
  go_loopg [13] m (fun g v13 wr => ∃ j : Nat, j + g = m ∧ v13 = .int .i64 j ∧ Hid (vlE v r s (bef l j) (l.drop j) = F) ∧ Hid (Grew w wr))
  case atStart => exact ⟨0, by omega, by go_num, HF.out, Grew.refl w⟩
  case round =>
    clear HF
    obtain ⟨j, hgj, rfl, HF, HG⟩ := hrel
    by_cases hj : j < m
    · have hjz : (j : Int) < (m : Int) := by omega
      have hjl : j < l.length := by rw [← HML.out]; exact hj
      obtain ⟨b1, o1, rfl, hb1, hc0, hc1⟩ := sees_pair HSI.out hjl
      have f1 := HG.out.cell hc0
      have f2 := HG.out.cell hc1
      obtain ⟨hw1, hw2⟩ := HPW.out _ (List.getElem_mem hjl)
      have hw2 := Lib.hid hw2
      have HQ : Hid (∀ e, prE v r s (bef l j) l[j] = e → e ≠ 0 → F = e) := fun e he h0 => vl_stop hjl HF.out he h0
      have HQ0 : Hid (prE v r s (bef l j) l[j] = 0 → vlE v r s (bef l (j + 1)) (l.drop (j + 1)) = F) := fun he => vl_on hjl HF.out he
      generalize l[j] = p at *
      obtain ⟨p1, p2⟩ := p
      dsimp only at f1 f2 hw2
      clear hc0 hc1 HF hw1
      have HGA := Lib.hid (HG.out.alloc (prObj p1 p2))
      by_cases h9 : p1 < 0 ∨ v ≤ p1
      · have HEE := Lib.hid (HQ.out 9 (prE_9 h9) (by decide))
        clear HQ HQ0
        by_cases h0 : p1 < 0
        · have d0 : decide (p1 < 0) = true := by simp [h0]
          clear h9
          go_wp2
          go_ret
          exact ⟨by rw [HEE.out]; rfl, HGA.out⟩
        · have d0 : decide (p1 < 0) = false := by simp [h0]
          have h1 : v ≤ p1 := by omega
          have d1 : decide (v ≤ p1) = true := by simp [h1]
          clear h9
          go_wp2
          go_ret
          exact ⟨by rw [HEE.out]; rfl, HGA.out⟩
      · have h0 : ¬ p1 < 0 := by omega
        have h1 : ¬ v ≤ p1 := by omega
        have d0 : decide (p1 < 0) = false := by simp [h0]
        have d1 : decide (v ≤ p1) = false := by simp [h1]
        have hf2 := fits_of hw2.out
        rcases hb2 : locS p2 r s with _ | _
        · have HEE := Lib.hid (HQ.out 10 (prE_10 h9 hb2) (by decide))
          have C1 := Lib.hid fun W => locin_at p2 r s false W hf2 hb2
          clear HQ HQ0 hb2 h9
          go_wp2_with (go_at_call 74; refine (C1.out _).mono ?_; rintro e w' ⟨rfl, rfl⟩)
          go_ret
          exact ⟨by rw [HEE.out]; rfl, HGA.out⟩
        · have C1 := Lib.hid fun W => locin_at p2 r s true W hf2 hb2
          by_cases hj0 : j = 0
          · have HN := Lib.hid (HQ0.out (by rw [show bef l j = none by simp [bef, hj0]]; exact prE_none h9 hb2))
            have dj : decide (0 < j) = false := by simp; omega
            clear HQ HQ0 hb2 h9 hj0
            go_upto_region 4 with fail
            have hpr := (Row.new wr 89 #[.int .i64 p1, .int .i64 p2])
            clear f1 f2
            generalize (wr.alloc (.cells #[.int .i64 p1, .int .i64 p2] 89)) = W1 at *
            generalize wr.heap.size = pb at *
            have c0 := hpr.cell 0
            have c1 := hpr.cell 1
            simp only [List.getElem?_toArray, List.getElem?_cons_zero, List.getElem?_cons_succ] at c0 c1
            clear hpr
            go_upto_region 8 with (go_at_call 74; refine (C1.out _).mono ?_; rintro e w' ⟨rfl, rfl⟩)
            go_quiet (fail)
            have HGB := Lib.hid (HGA.out.drewN nq)
            generalize W1.drewN nq = W2 at *
            clear c0 c1 HGA
            go_wp2
            go_roundg (m - (j + 1))
            case measure => omega
            case rel => exact ⟨j + 1, by omega, by go_num, HN.out, HGB.out⟩
          · obtain ⟨i, hi⟩ : ∃ i : Nat, j = i + 1 := ⟨j - 1, by omega⟩
            have hil : i < l.length := by omega
            have HPS : Hid (prE v r s (bef l j) (p1, p2) = if ltP l[i] (p1, p2) then 0 else 13) := by
              have e : bef l j = some l[i] := by simp [bef, hi, hil]
              show _ = _
              rw [e]
              exact prE_some h9 hb2
            have dj : decide (0 < j) = true := by simp; omega
            have dj2 : 0 < j := by omega
            have hji : IntKind.i64.wrap ((j : Int) - 1) = (i : Int) := by rw [IntKind.wrap_i64]; omega
            obtain ⟨b2, o2, e2, hb2', k0, k1⟩ := sees_pair HSI.out hil
            injection e2 with e2
            injection e2 with e2 e3
            subst e2 e3
            have g1 := HG.out.cell k0
            have g2 := HG.out.cell k1
            have C3 : Hid (∀ (W : World) n os, Calls Tryz.prog 75 #[.agg #[.int .i64 l[i].1, .int .i64 l[i].2], .agg #[.int .i64 p1, .int .i64 p2]] (Go.Sort.grow (W.drewN n) os) fun e w' => e = .returned (.bool (ltP l[i] (p1, p2))) ∧ ∃ q os', w' = Go.Sort.grow ((Go.Sort.grow (W.drewN n) os).drewN q) os') := fun W n os => less_any l[i] (p1, p2) _
            generalize l[i] = q at *
            obtain ⟨q1, q2⟩ := q
            dsimp only at g1 g2 C3
            have hiz : (i : Int) < (m : Int) := by omega
            clear hb2 h9 hj0 hb2' k0 k1 hi hil
            go_upto_region 4 with fail
            have hpr := (Row.new wr 89 #[.int .i64 p1, .int .i64 p2])
            have hb1' := (Below.refl wr.heap.size wr).alloc (Nat.le_refl _) (prObj p1 p2)
            have g1' := (hb1'.cell (p := ⟨_, _, none⟩) (World.block_lt_of_cell? _ _ g1)).trans g1
            have g2' := (hb1'.cell (p := ⟨_, _, none⟩) (World.block_lt_of_cell? _ _ g2)).trans g2
            clear f1 f2 g1 g2 hb1'
            generalize (wr.alloc (.cells #[.int .i64 p1, .int .i64 p2] 89)) = W1 at *
            generalize wr.heap.size = pb at *
            have c0 := hpr.cell 0
            have c1 := hpr.cell 1
            simp only [List.getElem?_toArray, List.getElem?_cons_zero, List.getElem?_cons_succ] at c0 c1
            clear hpr
            go_upto_region 8 with (go_at_call 74; refine (C1.out _).mono ?_; rintro e w' ⟨rfl, rfl⟩)
            have k0 := fun n os => Go.cell_grown (World.block_lt_of_cell? _ _ c0) c0 n os
            have k1 := fun n os => Go.cell_grown (World.block_lt_of_cell? _ _ c1) c1 n os
            have k2 := fun n os => Go.cell_grown (World.block_lt_of_cell? _ _ g1') g1' n os
            have k3 := fun n os => Go.cell_grown (World.block_lt_of_cell? _ _ g2') g2' n os
            rcases hb3 : ltP (q1, q2) (p1, p2) with _ | _
            · have HEE := Lib.hid (HQ.out 13 (by rw [HPS.out, hb3]; rfl) (by decide))
              rw [hb3] at C3
              clear HQ HQ0 hb3 HPS
              go_quiet_grown (first | (go_at_call 75; refine Calls.grown_of (C3.out _ _ _)))
              have HGB := Lib.hid (HGA.out.trans (show Grew W1 _ from ⟨nq, osq, rfl⟩))
              generalize Go.Sort.grow (W1.drewN nq) osq = W2 at *
              clear c0 c1 g1' g2' k0 k1 k2 k3
              go_wp2
              go_ret
              exact ⟨by rw [HEE.out]; rfl, HGB.out⟩
            · have HN := Lib.hid (HQ0.out (by rw [HPS.out, hb3]; rfl))
              rw [hb3] at C3
              clear HQ HQ0 hb3 HPS
              go_quiet_grown (first | (go_at_call 75; refine Calls.grown_of (C3.out _ _ _)))
              have HGB := Lib.hid (HGA.out.trans (show Grew W1 _ from ⟨nq, osq, rfl⟩))
              generalize Go.Sort.grow (W1.drewN nq) osq = W2 at *
              clear c0 c1 g1' g2' k0 k1 k2 k3 HGA
              go_wp2
              go_roundg (m - (j + 1))
              case measure => omega
              case rel => exact ⟨j + 1, by omega, by go_num, HN.out, HGB.out⟩
    · have hjz : ¬ (j : Int) < (m : Int) := by omega
      have HF0 := Lib.hid (vl_end (by rw [← HML.out]; exact hj) HF.out)
      go_wp2
      go_ret
      exact ⟨by rw [HF0.out]; rfl, HG.out⟩

set_option maxRecDepth 100000 in
set_option maxHeartbeats 8000000 in
theorem pvalid_grew (B : Nat) (A : Option Addr) (xs : List (List Pr)) (c : Nat) (n v r s : Int) (w : World) (hs : SeesPP w B A xs) (hB : B ≤ w.heap.size) (hf : xs.length ≤ 1000) (hl : ∀ x ∈ xs, x.length ≤ 1000) (hw : ∀ x ∈ xs, ∀ p ∈ x, PrWf p) :
    Calls Tryz.prog 30 #[.slice A xs.length c, .int .i64 n, .int .i64 v, .int .i64 r, .int .i64 s] w fun e w' => e = .returned (.int .i64 (validE xs n v r s)) ∧ Grew w w' := by
  have HS := Lib.hid hs
  have HL := Lib.hid hl
  have HWF := Lib.hid hw
  clear hs hl hw
  by_cases hn : (xs.length : Int) = n
  · have HV : Hid (validE xs n v r s = vlsE v r s xs) := by show _ = _; unfold validE; rw [if_neg (by simpa using hn)]
    have en : ((xs.length : Int) != n) = false := by simp [hn]
    have HNE := Lib.hid hn
    clear hn
    go_enter Tryz.func30, Tryz.ntmps30
    go_wp2
    go_loopg [11, 23] xs.length (fun g v11 v23 wr => ∃ k : Nat, k + g = xs.length ∧ v23 = .int .i64 k ∧ v11 = .int .i64 (totP (xs.take k) : Int) ∧ Hid (Grew w wr))
    case atStart => exact ⟨0, by omega, by go_num, by simp [totP], Grew.refl w⟩
    case round =>
      obtain ⟨k, hg, rfl, rfl, HG⟩ := hrel
      by_cases hk : k < xs.length
      · have hkz : (k : Int) < (xs.length : Int) := by omega
        obtain ⟨b, o, Ai, ci, rfl, hb, hc, hci, hcm, hsi⟩ := HS.out.at_ hk
        have f0 := HG.out.cell hc
        have ht : totP (xs.take k) ≤ 1000000 - 1000 := by
          have h1 := totP_le (take_few HL.out k)
          rw [List.length_take] at h1
          omega
        have hm : xs[k].length ≤ 1000 := HL.out _ (List.getElem_mem _)
        have HT := Lib.hid (totP_take hk)
        generalize totP (xs.take k) = t at *
        generalize xs[k].length = m at *
        clear hc hsi
        go_wp2
        go_roundg (xs.length - (k + 1))
        case measure => omega
        case rel => exact ⟨k + 1, by omega, by go_num, by rw [HT.out]; go_num, HG.out⟩
      · have hkz : ¬ (k : Int) < (xs.length : Int) := by omega
        have ht : totP (xs.take k) ≤ 1000000 := by
          have h1 := totP_le (take_few HL.out k)
          rw [List.length_take] at h1
          have h2 : (min k xs.length) * 1000 ≤ 1000 * 1000 := Nat.mul_le_mul (by omega) (Nat.le_refl _)
          omega
        generalize totP (xs.take k) = t at *
        have hgt : ¬ (1048576 : Int) < (t : Int) := by omega
        obtain ⟨E, hE⟩ : ∃ z, z = vlsE v r s xs := ⟨_, rfl⟩
        have HE : Hid (vlsE v r s (xs.drop 0) = E) := hE.symm
        have HV2 : Hid (validE xs n v r s = E) := HV.out.trans hE.symm
        clear hE HV hg
        go_wp2
        go_loopg [36] xs.length (fun g v36 wr => ∃ k : Nat, k + g = xs.length ∧ v36 = .int .i64 k ∧ Hid (vlsE v r s (xs.drop k) = E) ∧ Hid (Grew w wr))
        case atStart => exact ⟨0, by omega, by go_num, HE.out, HG.out⟩
        case round =>
          clear HE HG
          obtain ⟨k, hg, rfl, HE, HG⟩ := hrel
          by_cases hk : k < xs.length
          · have hkz : (k : Int) < (xs.length : Int) := by omega
            obtain ⟨b, o, Ai, ci, rfl, hb, hc, hci, hcm, hsi⟩ := HS.out.at_ hk
            have f0 := HG.out.cell hc
            have hm : xs[k].length ≤ 1000 := HL.out _ (List.getElem_mem _)
            have C := Lib.hid (pinv_any B Ai xs[k] ci v r s wr (hsi.below (HG.out.below.mono hB)) (by have := HG.out.below.size; omega) hm (HWF.out _ (List.getElem_mem hk)))
            have HE1 : Hid (vlE v r s none xs[k] ≠ 0 → E = vlE v r s none xs[k]) := fun h => by
              have := HE.out
              rw [vlsE_step hk, if_pos h] at this
              exact this.symm
            have HE2 : Hid (vlE v r s none xs[k] = 0 → vlsE v r s (xs.drop (k + 1)) = E) := fun h => by
              have := HE.out
              rw [vlsE_step hk, if_neg (by simp [h])] at this
              exact this
            generalize vlE v r s none xs[k] = F at *
            generalize xs[k].length = m at *
            clear hsi hc HE
            go_wp2_with fail
            refine C.out.mono ?_
            rintro e W1 ⟨rfl, hG1⟩
            have HG1 := Lib.hid (HG.out.trans hG1)
            clear hG1 C f0
            by_cases hF : F = 0
            · have eF : (F != 0) = false := by simp [hF]
              have HN := Lib.hid (HE2.out hF)
              clear hF
              go_wp2
              go_roundg (xs.length - (k + 1))
              case measure => omega
              case rel => exact ⟨k + 1, by omega, by go_num, HN.out, HG1.out⟩
            · have eF : (F != 0) = true := by simp [hF]
              have HN := Lib.hid (HE1.out hF)
              clear hF
              go_wp2
              go_ret
              exact ⟨by rw [HV2.out, HN.out]; rfl, HG1.out⟩
          · have hkz : ¬ (k : Int) < (xs.length : Int) := by omega
            have HE0 : Hid (E = 0) := by have := HE.out; rw [List.drop_of_length_le (by omega)] at this; exact this.symm
            go_wp2
            go_ret
            exact ⟨by rw [HV2.out, HE0.out]; rfl, HG.out⟩
  · have HV : Hid (validE xs n v r s = 14) := by show _ = _; unfold validE; rw [if_pos (by simpa using hn)]
    have en : ((xs.length : Int) != n) = true := by simp [hn]
    go_enter Tryz.func30, Tryz.ntmps30
    go_wp2
    go_ret
    exact ⟨by rw [HV.out]; rfl, Grew.refl w⟩

theorem pvalid_any (B : Nat) (A : Option Addr) (xs : List (List Pr)) (c : Nat) (n v r s : Int) (w : World) (hs : SeesPP w B A xs) (hB : B ≤ w.heap.size) (hf : xs.length ≤ 1000) (hl : ∀ x ∈ xs, x.length ≤ 1000) (hw : ∀ x ∈ xs, ∀ p ∈ x, PrWf p) :
    Calls Tryz.prog 30 #[.slice A xs.length c, .int .i64 n, .int .i64 v, .int .i64 r, .int .i64 s] w fun e w' => e = .returned (.int .i64 (validE xs n v r s)) ∧ Below w.heap.size w w' :=
  (pvalid_grew B A xs c n v r s w hs hB hf hl hw).mono fun _ _ ⟨h1, h2⟩ => ⟨h1, h2.below⟩

end Go.Proofs.YtcoehkphdfejjaaGreat
