/-
  The reference of layer 15: Initial, Few, Valid.
-/
import Derived.Test.YtkapmfopfddmbaaGreatPk15
namespace Go.Proofs.YtkapmfopfddmbaaGreat
open Go.RowKit
set_option linter.unusedVariables false

/-- What Few says. -/
def FewPP (xs : List (List Pr)) (e : Ending) : Prop := ∃ b : Bool, e = .returned (.bool b) ∧ (b = true → xs.length ≤ 40 ∧ ∀ x ∈ xs, x.length ≤ 400)

set_option maxRecDepth 100000 in
set_option maxHeartbeats 4000000 in
theorem redfew_any (B : Nat) (A : Option Addr) (xs : List (List Pr)) (c : Nat) (w : World) (hs : SeesPP w B A xs) (hm : xs.length ≤ maxLen) :
    Calls Tryz.prog 11 #[.slice A xs.length c] w fun e w' => FewPP xs e ∧ Grew w w' := by
  have HS := Lib.hid hs
  clear hs
  have hm2 : (xs.length : Int) ≤ 9223372036854775807 := by unfold maxLen at hm; omega
  go_enter Tryz.func11, Tryz.ntmps11
  go_wp2
  go_loopg [3] xs.length (fun g v3 wr => ∃ k : Nat, k + g = xs.length ∧ k ≤ 41 ∧ v3 = .int .i64 k ∧ Hid (∀ x ∈ xs.take k, x.length ≤ 400) ∧ Hid (Grew w wr))
  case atStart => exact ⟨0, by omega, by omega, by go_num, fun x hx => by simp at hx, Grew.refl w⟩
  case round =>
    obtain ⟨k, hg, hk41, rfl, HT, HG⟩ := hrel
    by_cases hk : k < xs.length
    · have hkz : (k : Int) < (xs.length : Int) := by omega
      by_cases h4 : k ≤ 40
      · have h4z : (k : Int) ≤ 40 := by omega
        obtain ⟨b, o, Ai, ci, rfl, hb, hc, hci, hcm, hsi⟩ := HS.out.at_ hk
        have f0 := HG.out.cell hc
        have HN : Hid (xs[k].length ≤ 400 → ∀ x ∈ xs.take (k + 1), x.length ≤ 400) := fun h x hx => by
          rw [List.take_succ_eq_append_getElem hk, List.mem_append] at hx
          rcases hx with hx | hx
          · exact HT.out x hx
          · simp at hx; subst hx; exact h
        generalize xs[k].length = m at *
        clear hc hsi HT
        by_cases hm4 : m ≤ 400
        · have HN2 := Lib.hid (HN.out hm4)
          have hmz : ¬ (400 : Int) < (m : Int) := by omega
          clear HN
          go_wp2
          go_roundg (xs.length - (k + 1))
          case measure => omega
          case rel => exact ⟨k + 1, by omega, by omega, by go_num, HN2.out, HG.out⟩
        · have hmz : (400 : Int) < (m : Int) := by omega
          go_wp2
          go_ret
          exact ⟨⟨false, rfl, fun h => by cases h⟩, HG.out⟩
      · have h4z : ¬ (k : Int) ≤ 40 := by omega
        have h5 : ¬ (xs.length : Int) ≤ 40 := by omega
        have h6 : decide ((xs.length : Int) ≤ 40) = false := by simp; omega
        go_wp2
        go_ret
        exact ⟨⟨false, rfl, fun h => by cases h⟩, HG.out⟩
    · have hkz : ¬ (k : Int) < (xs.length : Int) := by omega
      have HA : Hid (∀ x ∈ xs, x.length ≤ 400) := by have := HT.out; rw [List.take_of_length_le (by omega)] at this; exact this
      go_wp2
      go_ret
      exact ⟨⟨_, rfl, fun h => ⟨by simp at h; omega, HA.out⟩⟩, HG.out⟩

theorem prE_9 {v r s : Int} {q : Option Pr} {p : Pr} (h : p.1 < 0 ∨ v ≤ p.1) : prE v r s q p = 9 := by unfold prE; rw [if_pos h]

theorem prE_10 {v r s : Int} {q : Option Pr} {p : Pr} (h : ¬ (p.1 < 0 ∨ v ≤ p.1)) (k : locS p.2 r s = false) : prE v r s q p = 10 := by unfold prE; rw [if_neg h, if_pos k]

theorem prE_none {v r s : Int} {p : Pr} (h : ¬ (p.1 < 0 ∨ v ≤ p.1)) (k : locS p.2 r s = true) : prE v r s none p = 0 := by unfold prE; rw [if_neg h, if_neg (by simp [k])]

theorem prE_some {v r s : Int} {q p : Pr} (h : ¬ (p.1 < 0 ∨ v ≤ p.1)) (k : locS p.2 r s = true) : prE v r s (some q) p = if ltP q p then 0 else 13 := by unfold prE; rw [if_neg h, if_neg (by simp [k])]

theorem fits_of {x : Int} (h : I64 x) : Fits x := by
  have := i64_of_wf h
  unfold Fits
  omega

/-- What is left of an invariant: the error there, or on. -/
theorem vl_stop {v r s E e : Int} {l : List Pr} {k : Nat} (hk : k < l.length) (h : vlE v r s (bef l k) (l.drop k) = E) (he : prE v r s (bef l k) l[k] = e) (h0 : e ≠ 0) : E = e := by
  rw [vlE_step hk, he, if_pos h0] at h
  exact h.symm

theorem vl_on {v r s E : Int} {l : List Pr} {k : Nat} (hk : k < l.length) (h : vlE v r s (bef l k) (l.drop k) = E) (he : prE v r s (bef l k) l[k] = 0) : vlE v r s (bef l (k + 1)) (l.drop (k + 1)) = E := by
  rw [vlE_step hk, he] at h
  simpa using h

theorem vl_end {v r s E : Int} {l : List Pr} {k : Nat} (hk : ¬ k < l.length) (h : vlE v r s (bef l k) (l.drop k) = E) : E = 0 := by
  rw [List.drop_of_length_le (by omega)] at h
  rw [← h]
  cases bef l k <;> rfl

theorem totP_at : ∀ (xs : List (List Pr)) (k : Nat) (h : k < xs.length), totP (xs.take k) + xs[k].length ≤ totP xs
  | x :: xs, 0, _ => by show 0 + x.length ≤ x.length + totP xs; omega
  | x :: xs, k + 1, h => by
    have := totP_at xs k (by simpa using h)
    show x.length + totP (xs.take k) + (xs[k]'(by simpa using h)).length ≤ x.length + totP xs
    omega

set_option maxRecDepth 100000 in
set_option maxHeartbeats 8000000 in
theorem rvalid_w (B : Nat) (A : Option Addr) (xs : List (List Pr)) (c : Nat) (n v r s : Int) (w : World) (hs : SeesPP w B A xs) (hf : xs.length ≤ 3000) (hl : ∀ x ∈ xs, x.length ≤ 3000) (htp : totP xs ≤ 1000000) (hw : ∀ x ∈ xs, ∀ p ∈ x, PrWf p) :
    Calls Tryz.prog 33 #[.slice A xs.length c, .int .i64 n, .int .i64 v, .int .i64 r, .int .i64 s] w fun e w' => e = .returned (.int .i64 (validE xs n v r s)) ∧ Grew w w' := by
  have mixed : Tryz.prog.follows .mixedOrders = true := by kernel_rfl
  have HS := Lib.hid hs
  have HWF := Lib.hid hw
  have HL := Lib.hid hl
  have HTP : Hid (∀ k (h : k < xs.length), totP (xs.take k) + xs[k].length ≤ 1000000) := fun k h => Nat.le_trans (totP_at xs k h) htp
  clear hs hw hl htp
  by_cases hn : (xs.length : Int) = n
  · have HV : Hid (validE xs n v r s = vlsE v r s xs) := by show _ = _; unfold validE; rw [if_neg (by simpa using hn)]
    have en : ((xs.length : Int) != n) = false := by simp [hn]
    clear hn
    go_enter Tryz.func33, Tryz.ntmps33
    go_wp2
    go_loopg [11, 12] xs.length (fun g v11 v12 wr => ∃ k : Nat, k + g = xs.length ∧ v12 = .int .i64 k ∧ v11 = .int .i64 (totP (xs.take k)) ∧ Hid (Grew w wr))
    case atStart => exact ⟨0, by omega, by go_num, by simp [totP], Grew.refl w⟩
    case round =>
      obtain ⟨k, hg, rfl, rfl, HG⟩ := hrel
      by_cases hk : k < xs.length
      · have hkz : (k : Int) < (xs.length : Int) := by omega
        obtain ⟨b, o, Ai, ci, rfl, hb, hc, hci, hcm, hsi⟩ := HS.out.at_ hk
        have f0 := HG.out.cell hc
        have ht : totP (xs.take k) + xs[k].length ≤ 1000000 := HTP.out k hk
        have hm : xs[k].length ≤ 3000 := HL.out _ (List.getElem_mem _)
        have HT := Lib.hid (totP_take hk)
        generalize totP (xs.take k) = t at *
        generalize xs[k].length = m at *
        clear hc hsi
        have hgt : ¬ (1048576 : Int) < (t : Int) + (m : Int) := by omega
        go_wp2
        go_roundg (xs.length - (k + 1))
        case measure => omega
        case rel => exact ⟨k + 1, by omega, by go_num, by rw [HT.out]; go_num, HG.out⟩
      · have hkz : ¬ (k : Int) < (xs.length : Int) := by omega
        generalize totP (xs.take k) = t at *
        obtain ⟨E, hE⟩ : ∃ z, z = vlsE v r s xs := ⟨_, rfl⟩
        have HE : Hid (vlsE v r s (xs.drop 0) = E) := hE.symm
        have HV2 : Hid (validE xs n v r s = E) := HV.out.trans hE.symm
        clear hE HV hg
        go_wp2
        go_loopg [13] xs.length (fun g v13 wr => ∃ k : Nat, k + g = xs.length ∧ v13 = .int .i64 k ∧ Hid (vlsE v r s (xs.drop k) = E) ∧ Hid (Grew w wr))
        case atStart => exact ⟨0, by omega, by go_num, HE.out, HG.out⟩
        case round =>
          clear HE HG
          obtain ⟨k, hg, rfl, HE, HG⟩ := hrel
          by_cases hk : k < xs.length
          · have hkz : (k : Int) < (xs.length : Int) := by omega
            obtain ⟨b, o, Ai, ci, rfl, hb, hc, hci, hcm, hsi⟩ := HS.out.at_ hk
            have hm : xs[k].length ≤ 3000 := HL.out _ (List.getElem_mem _)
            have HPW := Lib.hid (HWF.out _ (List.getElem_mem hk))
            have HE1 : Hid (vlE v r s none xs[k] ≠ 0 → E = vlE v r s none xs[k]) := fun h => by
              have := HE.out
              rw [vlsE_step hk, if_pos h] at this
              exact this.symm
            have HE2 : Hid (vlE v r s none xs[k] = 0 → vlsE v r s (xs.drop (k + 1)) = E) := fun h => by
              have := HE.out
              rw [vlsE_step hk, if_neg (by simp [h])] at this
              exact this
            generalize xs[k] = l at *
            obtain ⟨m, hml⟩ : ∃ m, m = l.length := ⟨_, rfl⟩
            rw [← hml] at hc hci hm
            have HML := Lib.hid hml
            have HSI := Lib.hid hsi
            have HC := Lib.hid hc
            obtain ⟨F, hF⟩ : ∃ z, z = vlE v r s none l := ⟨_, rfl⟩
            have HF : Hid (vlE v r s (bef l 0) (l.drop 0) = F) := hF.symm
            rw [← hF] at HE1 HE2
            clear hF hml hsi hc HE
            go_wp2
            go_loopg [14] m (fun g v14 wr => ∃ j : Nat, j + g = m ∧ v14 = .int .i64 j ∧ Hid (vlE v r s (bef l j) (l.drop j) = F) ∧ Hid (Grew w wr))
            case atStart => exact ⟨0, by omega, by go_num, HF.out, HG.out⟩
            case round =>
              clear HF HG
              obtain ⟨j, hgj, rfl, HF, HG⟩ := hrel
              have f0 := HG.out.cell HC.out
              by_cases hj : j < m
              · have hjz : (j : Int) < (m : Int) := by omega
                have hjl : j < l.length := by rw [← HML.out]; exact hj
                obtain ⟨b1, o1, rfl, hb1, hc0, hc1⟩ := sees_pair HSI.out hjl
                have f1 := HG.out.cell hc0
                have f2 := HG.out.cell hc1
                obtain ⟨hw1, hw2⟩ := HPW.out _ (List.getElem_mem hjl)
                have hw2 := Lib.hid hw2
                have HQ : Hid (∀ e, prE v r s (bef l j) l[j] = e → e ≠ 0 → F = e) := fun e he h0 => vl_stop hjl HF.out he h0
                have HQ0 : Hid (prE v r s (bef l j) l[j] = 0 → vlE v r s (bef l (j + 1)) (l.drop (j + 1)) = F) := fun he => vl_on hjl HF.out he
                generalize l[j] = p at *
                obtain ⟨p1, p2⟩ := p
                dsimp only at f1 f2 hw2
                clear hc0 hc1 HF hw1
                have HGA := Lib.hid (HG.out.alloc (prObj p1 p2))
                by_cases h9 : p1 < 0 ∨ v ≤ p1
                · have HF9 := HQ.out 9 (prE_9 h9) (by decide)
                  have HEE : Hid (E = 9) := (HE1.out (by omega)).trans HF9
                  clear HF9 HQ HQ0
                  by_cases h0 : p1 < 0
                  · have d0 : decide (p1 < 0) = true := by simp [h0]
                    clear h9
                    go_wp2
                    go_ret
                    exact ⟨by rw [HV2.out, HEE.out]; rfl, HGA.out⟩
                  · have d0 : decide (p1 < 0) = false := by simp [h0]
                    have h1 : v ≤ p1 := by omega
                    have d1 : decide (v ≤ p1) = true := by simp [h1]
                    clear h9
                    go_wp2
                    go_ret
                    exact ⟨by rw [HV2.out, HEE.out]; rfl, HGA.out⟩
                · have h0 : ¬ p1 < 0 := by omega
                  have h1 : ¬ v ≤ p1 := by omega
                  have d0 : decide (p1 < 0) = false := by simp [h0]
                  have d1 : decide (v ≤ p1) = false := by simp [h1]
                  have hf2 := fits_of hw2.out
                  rcases hb2 : locS p2 r s with _ | _
                  · have HF9 := HQ.out 10 (prE_10 h9 hb2) (by decide)
                    have HEE : Hid (E = 10) := (HE1.out (by omega)).trans HF9
                    have C1 := Lib.hid fun W => rlocin_at p2 r s false W hf2 hb2
                    clear HF9 HQ HQ0 hb2 h9
                    go_wp2_with (go_at_call 56; refine (C1.out _).mono ?_; rintro e w' ⟨rfl, rfl⟩)
                    go_ret
                    exact ⟨by rw [HV2.out, HEE.out]; rfl, HGA.out⟩
                  · have C1 := Lib.hid fun W => rlocin_at p2 r s true W hf2 hb2
                    by_cases hj0 : j = 0
                    · have HN := Lib.hid (HQ0.out (by rw [show bef l j = none by simp [bef, hj0]]; exact prE_none h9 hb2))
                      have dj : decide (0 < j) = false := by simp; omega
                      clear HQ HQ0 hb2 h9 hj0
                      go_upto_region 17 with fail
                      have hpr := (Row.new wr 86 #[.int .i64 p1, .int .i64 p2])
                      clear f0 f1 f2
                      generalize (wr.alloc (.cells #[.int .i64 p1, .int .i64 p2] 86)) = W1 at *
                      generalize wr.heap.size = pb at *
                      have c0 := hpr.cell 0
                      have c1 := hpr.cell 1
                      simp only [List.getElem?_toArray, List.getElem?_cons_zero, List.getElem?_cons_succ] at c0 c1
                      clear hpr
                      go_upto_region 21 with (go_at_call 56; refine (C1.out _).mono ?_; rintro e w' ⟨rfl, rfl⟩)
                      go_quiet (fail)
                      have HGB := Lib.hid (HGA.out.drewN nq)
                      generalize W1.drewN nq = W2 at *
                      clear c0 c1 HGA
                      go_wp2
                      go_roundg (m - (j + 1))
                      case measure => omega
                      case rel => exact ⟨j + 1, by omega, by go_num, HN.out, HGB.out⟩
                    · obtain ⟨i, hi⟩ : ∃ i : Nat, j = i + 1 := ⟨j - 1, by omega⟩
                      have hil : i < l.length := by omega
                      have HPS : Hid (prE v r s (bef l j) (p1, p2) = if ltP l[i] (p1, p2) then 0 else 13) := by
                        have e : bef l j = some l[i] := by simp [bef, hi, hil]
                        show _ = _
                        rw [e]
                        exact prE_some h9 hb2
                      have dj : decide (0 < j) = true := by simp; omega
                      have dj2 : 0 < j := by omega
                      have hji : IntKind.i64.wrap ((j : Int) - 1) = (i : Int) := by rw [IntKind.wrap_i64]; omega
                      obtain ⟨b2, o2, e2, hb2', k0, k1⟩ := sees_pair HSI.out hil
                      injection e2 with e2
                      injection e2 with e2 e3
                      subst e2 e3
                      have g1 := HG.out.cell k0
                      have g2 := HG.out.cell k1
                      have C3 : Hid (∀ (W : World) n os, Calls Tryz.prog 57 #[.agg #[.int .i64 l[i].1, .int .i64 l[i].2], .agg #[.int .i64 p1, .int .i64 p2]] (Go.Sort.grow (W.drewN n) os) fun e w' => e = .returned (.bool (ltP l[i] (p1, p2))) ∧ ∃ q os', w' = Go.Sort.grow ((Go.Sort.grow (W.drewN n) os).drewN q) os') := fun W n os => rless_any l[i] (p1, p2) _
                      generalize l[i] = q at *
                      obtain ⟨q1, q2⟩ := q
                      dsimp only at g1 g2 C3
                      have hiz : (i : Int) < (m : Int) := by omega
                      clear hb2 h9 hj0 hb2' k0 k1 hi hil
                      go_upto_region 17 with fail
                      have hpr := (Row.new wr 86 #[.int .i64 p1, .int .i64 p2])
                      have f0' := (HG.out.alloc (prObj p1 p2)).cell HC.out
                      have hb1' := (Below.refl wr.heap.size wr).alloc (Nat.le_refl _) (prObj p1 p2)
                      have g1' := (hb1'.cell (p := ⟨_, _, none⟩) (World.block_lt_of_cell? _ _ g1)).trans g1
                      have g2' := (hb1'.cell (p := ⟨_, _, none⟩) (World.block_lt_of_cell? _ _ g2)).trans g2
                      clear f0 f1 f2 g1 g2 hb1'
                      generalize (wr.alloc (.cells #[.int .i64 p1, .int .i64 p2] 86)) = W1 at *
                      generalize wr.heap.size = pb at *
                      have c0 := hpr.cell 0
                      have c1 := hpr.cell 1
                      simp only [List.getElem?_toArray, List.getElem?_cons_zero, List.getElem?_cons_succ] at c0 c1
                      clear hpr
                      go_upto_region 21 with (go_at_call 56; refine (C1.out _).mono ?_; rintro e w' ⟨rfl, rfl⟩)
                      have k0 := fun n os => Go.cell_grown (World.block_lt_of_cell? _ _ c0) c0 n os
                      have k1 := fun n os => Go.cell_grown (World.block_lt_of_cell? _ _ c1) c1 n os
                      have k2 := fun n os => Go.cell_grown (World.block_lt_of_cell? _ _ g1') g1' n os
                      have k3 := fun n os => Go.cell_grown (World.block_lt_of_cell? _ _ g2') g2' n os
                      have k4 := fun n os => Go.cell_grown (World.block_lt_of_cell? _ _ f0') f0' n os
                      rcases hb3 : ltP (q1, q2) (p1, p2) with _ | _
                      · have HF9 := HQ.out 13 (by rw [HPS.out, hb3]; rfl) (by decide)
                        have HEE : Hid (E = 13) := (HE1.out (by omega)).trans HF9
                        rw [hb3] at C3
                        clear HF9 HQ HQ0 hb3 HPS
                        go_quiet_grown (first | (go_at_call 57; refine Calls.grown_of (C3.out _ _ _)))
                        have HGB := Lib.hid (HGA.out.trans (show Grew W1 _ from ⟨nq, osq, rfl⟩))
                        generalize Go.Sort.grow (W1.drewN nq) osq = W2 at *
                        clear c0 c1 g1' g2' f0' k0 k1 k2 k3 k4
                        go_wp2
                        go_ret
                        exact ⟨by rw [HV2.out, HEE.out]; rfl, HGB.out⟩
                      · have HN := Lib.hid (HQ0.out (by rw [HPS.out, hb3]; rfl))
                        rw [hb3] at C3
                        clear HQ HQ0 hb3 HPS
                        go_quiet_grown (first | (go_at_call 57; refine Calls.grown_of (C3.out _ _ _)))
                        have HGB := Lib.hid (HGA.out.trans (show Grew W1 _ from ⟨nq, osq, rfl⟩))
                        generalize Go.Sort.grow (W1.drewN nq) osq = W2 at *
                        clear c0 c1 g1' g2' f0' k0 k1 k2 k3 k4 HGA
                        go_wp2
                        go_roundg (m - (j + 1))
                        case measure => omega
                        case rel => exact ⟨j + 1, by omega, by go_num, HN.out, HGB.out⟩
              · have hjz : ¬ (j : Int) < (m : Int) := by omega
                have hF0 := vl_end (by rw [← HML.out]; exact hj) HF.out
                have HEK := Lib.hid (HE2.out hF0)
                clear hF0
                go_wp2
                go_roundg (xs.length - (k + 1))
                case measure => omega
                case rel => exact ⟨k + 1, by omega, by go_num, HEK.out, HG.out⟩
          · have hkz : ¬ (k : Int) < (xs.length : Int) := by omega
            have HE0 : Hid (E = 0) := by have := HE.out; rw [List.drop_of_length_le (by omega)] at this; exact this.symm
            go_wp2
            go_ret
            exact ⟨by rw [HV2.out, HE0.out]; rfl, HG.out⟩
  · have HV : Hid (validE xs n v r s = 14) := by show _ = _; unfold validE; rw [if_pos (by simpa using hn)]
    have en : ((xs.length : Int) != n) = true := by simp [hn]
    go_enter Tryz.func33, Tryz.ntmps33
    go_wp2
    go_ret
    exact ⟨by rw [HV.out]; rfl, Grew.refl w⟩

theorem rvalid_any (B : Nat) (A : Option Addr) (xs : List (List Pr)) (c : Nat) (n v r s : Int) (w : World) (hs : SeesPP w B A xs) (hf : xs.length ≤ 1000) (hl : ∀ x ∈ xs, x.length ≤ 1000) (hw : ∀ x ∈ xs, ∀ p ∈ x, PrWf p) :
    Calls Tryz.prog 33 #[.slice A xs.length c, .int .i64 n, .int .i64 v, .int .i64 r, .int .i64 s] w fun e w' => e = .returned (.int .i64 (validE xs n v r s)) ∧ Grew w w' :=
  rvalid_w B A xs c n v r s w hs (by omega) (fun x hx => by have := hl x hx; omega) (by have h1 := totP_le hl; have h2 : xs.length * 1000 ≤ 1000 * 1000 := Nat.mul_le_mul_right _ hf; omega) hw

end Go.Proofs.YtkapmfopfddmbaaGreat
