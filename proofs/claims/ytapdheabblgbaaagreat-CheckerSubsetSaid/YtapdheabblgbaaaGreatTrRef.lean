/-
  Copy, Move and Define of the reference.
-/
import Derived.Test.YtapdheabblgbaaaGreatPk3
namespace Go.Proofs.YtapdheabblgbaaaGreat
open Go.RowKit
set_option linter.unusedVariables false

theorem addP2 (oo : List Pr) (x y : Pr) : mkP (oo ++ [x, y]) = addP (addP (mkP oo) x) y := by
  rw [show oo ++ [x, y] = oo ++ [x] ++ [y] by simp, mkP_snoc, mkP_snoc]
theorem addP_mk_len (oo : List Pr) (x : Pr) : (addP (mkP oo) x).length ≤ oo.length + 1 := by
  rw [mkP_add]
  exact Nat.le_trans (mkP_len _) (by simp)

set_option maxRecDepth 100000 in
set_option maxHeartbeats 4000000 in
theorem rtcopy_any (B : Nat) (A : Option Addr) (l : List Pr) (c : Nat) (d a : Int) (w : World) (hs : Sees w B A (prs l)) (hB : B ≤ w.heap.size) (hm : l.length ≤ 400000) :
    Calls Tryz.prog 47 #[.slice A l.length c, .int .i64 d, .int .i64 a] w fun e w' => ∃ v, e = .returned v ∧ PL w v (mkP (l.flatMap (cpS d a))) w' := by
  go_enter Tryz.func47, Tryz.ntmps47
  go_wp2
  go_loopg [7, 8] l.length (fun g v7 v8 wr => ∃ k : Nat, k + g = l.length ∧ v8 = .int .i64 k ∧ Hid (PL w v7 (mkP ((l.take k).flatMap (cpS d a))) wr))
  case atStart => exact ⟨0, by omega, by go_num, PL.nil w⟩
  case round =>
    obtain ⟨k, hg, rfl, HP⟩ := hrel
    by_cases hlt : k < l.length
    · have FT0 : mkP ((l.take (k + 1)).flatMap (cpS d a)) = mkP ((l.take k).flatMap (cpS d a) ++ cpS d a l[k]) := by rw [flat_take hlt]
      have hoo : ((l.take k).flatMap (cpS d a)).length ≤ 800000 := Nat.le_trans (flat_len (cpS_len d a) _) (by simp; omega)
      generalize (l.take k).flatMap (cpS d a) = oo at *
      obtain ⟨b1, o1, rfl, hb, hc0, hc1⟩ := sees_pair hs hlt
      obtain ⟨x, hx⟩ : ∃ x, x = l[k] := ⟨_, rfl⟩
      rw [← hx] at hc0 hc1 FT0
      clear hx
      obtain ⟨x1, x2⟩ := x
      dsimp only at hc0 hc1
      have CF : Hid (∀ W, Below w.heap.size w W → W.cell? ⟨b1, o1 + k * 2, none⟩ = some (.int .i64 x1) ∧ W.cell? ⟨b1, o1 + k * 2 + 1, none⟩ = some (.int .i64 x2)) := fun W h =>
        ⟨(h.cell (p := ⟨b1, _, none⟩) (by show b1 < _; omega)).trans hc0, (h.cell (p := ⟨b1, _, none⟩) (by show b1 < _; omega)).trans hc1⟩
      have hkz : (k : Int) < (l.length : Int) := by omega
      clear hc0 hc1 hs
      have L0 : (mkP oo).length ≤ 1000000 := Nat.le_trans (mkP_len _) (by omega)
      have L1 : (addP (mkP oo) (x1, x2)).length ≤ 1000000 := Nat.le_trans (addP_mk_len _ _) (by omega)
      have A0 : Hid (mkP (oo ++ []) = mkP oo) := by show _ = _; rw [List.append_nil]
      have A1 : Hid (mkP (oo ++ [(x1, x2)]) = addP (mkP oo) (x1, x2)) := mkP_snoc _ _
      have A2 : Hid (mkP (oo ++ [(d, x2)]) = addP (mkP oo) (d, x2)) := mkP_snoc _ _
      have A3 : Hid (mkP (oo ++ [(x1, x2), (d, x2)]) = addP (addP (mkP oo) (x1, x2)) (d, x2)) := addP2 _ _ _
      have hF : (cpS d a (x1, x2)) = (if d = a ∨ x1 ≠ d then [(x1, x2)] else []) ++ if x1 = a then [(d, x2)] else [] := rfl
      rw [hF] at FT0
      clear hF
      have HX0 : Hid ((d = a ∨ x1 ≠ d) → (if d = a ∨ x1 ≠ d then [(x1, x2)] else []) = [(x1, x2)]) := fun h => if_pos h
      have HX1 : Hid (¬ (d = a ∨ x1 ≠ d) → (if d = a ∨ x1 ≠ d then [(x1, x2)] else []) = []) := fun h => if_neg h
      have HX2 : Hid (x1 = a → (if x1 = a then [(d, x2)] else []) = [(d, x2)]) := fun h => if_pos h
      have HX3 : Hid (¬ x1 = a → (if x1 = a then [(d, x2)] else []) = []) := fun h => if_neg h
      have FT0 := Lib.hid FT0
      by_cases hda : d = a
      · have ed : (d == a) = true := by simp [hda]
        have H0 := Lib.hid (HX0.out (.inl hda))
        by_cases hxa : x1 = a
        · have ea : (x1 == a) = true := by simp [hxa]
          have FT := Lib.hid (FT0.out.trans ((congrArg (fun z => mkP (oo ++ z)) (congr (congrArg HAppend.hAppend H0.out) (HX2.out hxa))).trans A3.out))
          clear hda hxa FT0 HX0 HX1 HX2 HX3 A0 A1 A2 A3 H0 hoo
          generalize mkP oo = o at *
          obtain ⟨AV, cv, rfl, _, _⟩ := HP.out.slice
          have C := Lib.hid (radd_any wr.heap.size AV o cv (x1, x2) wr HP.out.sees (Nat.le_refl _) L0)
          dsimp only at C
          obtain ⟨c0, c1⟩ := CF.out _ HP.out.blw
          go_wp2_with fail
          refine C.out.mono ?_
          rintro e W2 ⟨v, rfl, hP⟩
          have HP2 := Lib.hid (hP.base HP.out.blw)
          clear hP C c0 c1
          generalize addP o (x1, x2) = o2 at *
          obtain ⟨AV, cv, rfl, _, _⟩ := HP2.out.slice
          have C := Lib.hid (radd_any W2.heap.size AV o2 cv (d, x2) W2 HP2.out.sees (Nat.le_refl _) L1)
          dsimp only at C
          obtain ⟨c0, c1⟩ := CF.out _ HP2.out.blw
          go_wp2_with fail
          refine C.out.mono ?_
          rintro e W3 ⟨v, rfl, hP⟩
          have HP3 := Lib.hid (hP.base HP2.out.blw)
          clear hP C c0 c1
          go_wp2
          go_roundg (l.length - (k + 1))
          case measure => omega
          case rel => exact ⟨k + 1, by omega, by go_num, by show PL _ _ _ _; rw [FT.out]; exact HP3.out⟩
        · have ea : (x1 == a) = false := by simp [hxa]
          have FT := Lib.hid (FT0.out.trans ((congrArg (fun z => mkP (oo ++ z)) (congr (congrArg HAppend.hAppend H0.out) (HX3.out hxa))).trans A1.out))
          clear hda hxa FT0 HX0 HX1 HX2 HX3 A0 A1 A2 A3 H0 hoo
          generalize mkP oo = o at *
          obtain ⟨AV, cv, rfl, _, _⟩ := HP.out.slice
          have C := Lib.hid (radd_any wr.heap.size AV o cv (x1, x2) wr HP.out.sees (Nat.le_refl _) L0)
          dsimp only at C
          obtain ⟨c0, c1⟩ := CF.out _ HP.out.blw
          go_wp2_with fail
          refine C.out.mono ?_
          rintro e W2 ⟨v, rfl, hP⟩
          have HP2 := Lib.hid (hP.base HP.out.blw)
          clear hP C c0 c1
          obtain ⟨c0, c1⟩ := CF.out _ HP2.out.blw
          go_wp2
          go_roundg (l.length - (k + 1))
          case measure => omega
          case rel => exact ⟨k + 1, by omega, by go_num, by show PL _ _ _ _; rw [FT.out]; exact HP2.out⟩
      · have ed : (d == a) = false := by simp [hda]
        by_cases hxd : x1 = d
        · have ex : (x1 != d) = false := by simp [hxd]
          have H0 := Lib.hid (HX1.out (fun h => h.elim hda fun h => h hxd))
          by_cases hxa : x1 = a
          · have ea : (x1 == a) = true := by simp [hxa]
            have FT := Lib.hid (FT0.out.trans ((congrArg (fun z => mkP (oo ++ z)) (congr (congrArg HAppend.hAppend H0.out) (HX2.out hxa))).trans A2.out))
            clear hda hxd hxa FT0 HX0 HX1 HX2 HX3 A0 A1 A2 A3 H0 hoo
            generalize mkP oo = o at *
            obtain ⟨AV, cv, rfl, _, _⟩ := HP.out.slice
            have C := Lib.hid (radd_any wr.heap.size AV o cv (d, x2) wr HP.out.sees (Nat.le_refl _) L0)
            dsimp only at C
            obtain ⟨c0, c1⟩ := CF.out _ HP.out.blw
            go_wp2_with fail
            refine C.out.mono ?_
            rintro e W2 ⟨v, rfl, hP⟩
            have HP2 := Lib.hid (hP.base HP.out.blw)
            clear hP C c0 c1
            go_wp2
            go_roundg (l.length - (k + 1))
            case measure => omega
            case rel => exact ⟨k + 1, by omega, by go_num, by show PL _ _ _ _; rw [FT.out]; exact HP2.out⟩
          · have ea : (x1 == a) = false := by simp [hxa]
            have FT := Lib.hid (FT0.out.trans ((congrArg (fun z => mkP (oo ++ z)) (congr (congrArg HAppend.hAppend H0.out) (HX3.out hxa))).trans A0.out))
            clear hda hxd hxa FT0 HX0 HX1 HX2 HX3 A0 A1 A2 A3 H0 hoo
            obtain ⟨c0, c1⟩ := CF.out _ HP.out.blw
            go_wp2
            go_roundg (l.length - (k + 1))
            case measure => omega
            case rel => exact ⟨k + 1, by omega, by go_num, by show PL _ _ _ _; rw [FT.out]; exact HP.out⟩
        · have ex : (x1 != d) = true := by simp [hxd]
          have H0 := Lib.hid (HX0.out (.inr hxd))
          by_cases hxa : x1 = a
          · have ea : (x1 == a) = true := by simp [hxa]
            have FT := Lib.hid (FT0.out.trans ((congrArg (fun z => mkP (oo ++ z)) (congr (congrArg HAppend.hAppend H0.out) (HX2.out hxa))).trans A3.out))
            clear hda hxd hxa FT0 HX0 HX1 HX2 HX3 A0 A1 A2 A3 H0 hoo
            generalize mkP oo = o at *
            obtain ⟨AV, cv, rfl, _, _⟩ := HP.out.slice
            have C := Lib.hid (radd_any wr.heap.size AV o cv (x1, x2) wr HP.out.sees (Nat.le_refl _) L0)
            dsimp only at C
            obtain ⟨c0, c1⟩ := CF.out _ HP.out.blw
            go_wp2_with fail
            refine C.out.mono ?_
            rintro e W2 ⟨v, rfl, hP⟩
            have HP2 := Lib.hid (hP.base HP.out.blw)
            clear hP C c0 c1
            generalize addP o (x1, x2) = o2 at *
            obtain ⟨AV, cv, rfl, _, _⟩ := HP2.out.slice
            have C := Lib.hid (radd_any W2.heap.size AV o2 cv (d, x2) W2 HP2.out.sees (Nat.le_refl _) L1)
            dsimp only at C
            obtain ⟨c0, c1⟩ := CF.out _ HP2.out.blw
            go_wp2_with fail
            refine C.out.mono ?_
            rintro e W3 ⟨v, rfl, hP⟩
            have HP3 := Lib.hid (hP.base HP2.out.blw)
            clear hP C c0 c1
            go_wp2
            go_roundg (l.length - (k + 1))
            case measure => omega
            case rel => exact ⟨k + 1, by omega, by go_num, by show PL _ _ _ _; rw [FT.out]; exact HP3.out⟩
          · have ea : (x1 == a) = false := by simp [hxa]
            have FT := Lib.hid (FT0.out.trans ((congrArg (fun z => mkP (oo ++ z)) (congr (congrArg HAppend.hAppend H0.out) (HX3.out hxa))).trans A1.out))
            clear hda hxd hxa FT0 HX0 HX1 HX2 HX3 A0 A1 A2 A3 H0 hoo
            generalize mkP oo = o at *
            obtain ⟨AV, cv, rfl, _, _⟩ := HP.out.slice
            have C := Lib.hid (radd_any wr.heap.size AV o cv (x1, x2) wr HP.out.sees (Nat.le_refl _) L0)
            dsimp only at C
            obtain ⟨c0, c1⟩ := CF.out _ HP.out.blw
            go_wp2_with fail
            refine C.out.mono ?_
            rintro e W2 ⟨v, rfl, hP⟩
            have HP2 := Lib.hid (hP.base HP.out.blw)
            clear hP C c0 c1
            obtain ⟨c0, c1⟩ := CF.out _ HP2.out.blw
            go_wp2
            go_roundg (l.length - (k + 1))
            case measure => omega
            case rel => exact ⟨k + 1, by omega, by go_num, by show PL _ _ _ _; rw [FT.out]; exact HP2.out⟩
    · have hk2 : l.take k = l := List.take_of_length_le (by omega)
      rw [hk2] at HP
      have hkz : ¬ (k : Int) < (l.length : Int) := by omega
      clear hk2 hs
      go_wp2
      go_ret
      exact ⟨_, rfl, HP.out⟩

set_option maxRecDepth 100000 in
set_option maxHeartbeats 4000000 in
theorem rtmove_any (B : Nat) (A : Option Addr) (l : List Pr) (c : Nat) (d a : Int) (w : World) (hs : Sees w B A (prs l)) (hB : B ≤ w.heap.size) (hm : l.length ≤ 400000) :
    Calls Tryz.prog 48 #[.slice A l.length c, .int .i64 d, .int .i64 a] w fun e w' => ∃ v, e = .returned v ∧ PL w v (mkP (l.flatMap (mvS d a))) w' := by
  go_enter Tryz.func48, Tryz.ntmps48
  go_wp2
  go_loopg [7, 8] l.length (fun g v7 v8 wr => ∃ k : Nat, k + g = l.length ∧ v8 = .int .i64 k ∧ Hid (PL w v7 (mkP ((l.take k).flatMap (mvS d a))) wr))
  case atStart => exact ⟨0, by omega, by go_num, PL.nil w⟩
  case round =>
    obtain ⟨k, hg, rfl, HP⟩ := hrel
    by_cases hlt : k < l.length
    · have FT0 : mkP ((l.take (k + 1)).flatMap (mvS d a)) = mkP ((l.take k).flatMap (mvS d a) ++ mvS d a l[k]) := by rw [flat_take hlt]
      have hoo : ((l.take k).flatMap (mvS d a)).length ≤ 800000 := Nat.le_trans (flat_len (mvS_len d a) _) (by simp; omega)
      generalize (l.take k).flatMap (mvS d a) = oo at *
      obtain ⟨b1, o1, rfl, hb, hc0, hc1⟩ := sees_pair hs hlt
      obtain ⟨x, hx⟩ : ∃ x, x = l[k] := ⟨_, rfl⟩
      rw [← hx] at hc0 hc1 FT0
      clear hx
      obtain ⟨x1, x2⟩ := x
      dsimp only at hc0 hc1
      have CF : Hid (∀ W, Below w.heap.size w W → W.cell? ⟨b1, o1 + k * 2, none⟩ = some (.int .i64 x1) ∧ W.cell? ⟨b1, o1 + k * 2 + 1, none⟩ = some (.int .i64 x2)) := fun W h =>
        ⟨(h.cell (p := ⟨b1, _, none⟩) (by show b1 < _; omega)).trans hc0, (h.cell (p := ⟨b1, _, none⟩) (by show b1 < _; omega)).trans hc1⟩
      have hkz : (k : Int) < (l.length : Int) := by omega
      clear hc0 hc1 hs
      have L0 : (mkP oo).length ≤ 1000000 := Nat.le_trans (mkP_len _) (by omega)
      have L1 : (addP (mkP oo) (x1, x2)).length ≤ 1000000 := Nat.le_trans (addP_mk_len _ _) (by omega)
      have A0 : Hid (mkP (oo ++ []) = mkP oo) := by show _ = _; rw [List.append_nil]
      have A1 : Hid (mkP (oo ++ [(x1, x2)]) = addP (mkP oo) (x1, x2)) := mkP_snoc _ _
      have A2 : Hid (mkP (oo ++ [(x1, d)]) = addP (mkP oo) (x1, d)) := mkP_snoc _ _
      have A3 : Hid (mkP (oo ++ [(x1, x2), (x1, d)]) = addP (addP (mkP oo) (x1, x2)) (x1, d)) := addP2 _ _ _
      have hF : (mvS d a (x1, x2)) = (if d = a ∨ x2 ≠ d then [(x1, x2)] else []) ++ if x2 = a then [(x1, d)] else [] := rfl
      rw [hF] at FT0
      clear hF
      have HX0 : Hid ((d = a ∨ x2 ≠ d) → (if d = a ∨ x2 ≠ d then [(x1, x2)] else []) = [(x1, x2)]) := fun h => if_pos h
      have HX1 : Hid (¬ (d = a ∨ x2 ≠ d) → (if d = a ∨ x2 ≠ d then [(x1, x2)] else []) = []) := fun h => if_neg h
      have HX2 : Hid (x2 = a → (if x2 = a then [(x1, d)] else []) = [(x1, d)]) := fun h => if_pos h
      have HX3 : Hid (¬ x2 = a → (if x2 = a then [(x1, d)] else []) = []) := fun h => if_neg h
      have FT0 := Lib.hid FT0
      by_cases hda : d = a
      · have ed : (d == a) = true := by simp [hda]
        have H0 := Lib.hid (HX0.out (.inl hda))
        by_cases hxa : x2 = a
        · have ea : (x2 == a) = true := by simp [hxa]
          have FT := Lib.hid (FT0.out.trans ((congrArg (fun z => mkP (oo ++ z)) (congr (congrArg HAppend.hAppend H0.out) (HX2.out hxa))).trans A3.out))
          clear hda hxa FT0 HX0 HX1 HX2 HX3 A0 A1 A2 A3 H0 hoo
          generalize mkP oo = o at *
          obtain ⟨AV, cv, rfl, _, _⟩ := HP.out.slice
          have C := Lib.hid (radd_any wr.heap.size AV o cv (x1, x2) wr HP.out.sees (Nat.le_refl _) L0)
          dsimp only at C
          obtain ⟨c0, c1⟩ := CF.out _ HP.out.blw
          go_wp2_with fail
          refine C.out.mono ?_
          rintro e W2 ⟨v, rfl, hP⟩
          have HP2 := Lib.hid (hP.base HP.out.blw)
          clear hP C c0 c1
          generalize addP o (x1, x2) = o2 at *
          obtain ⟨AV, cv, rfl, _, _⟩ := HP2.out.slice
          have C := Lib.hid (radd_any W2.heap.size AV o2 cv (x1, d) W2 HP2.out.sees (Nat.le_refl _) L1)
          dsimp only at C
          obtain ⟨c0, c1⟩ := CF.out _ HP2.out.blw
          go_wp2_with fail
          refine C.out.mono ?_
          rintro e W3 ⟨v, rfl, hP⟩
          have HP3 := Lib.hid (hP.base HP2.out.blw)
          clear hP C c0 c1
          go_wp2
          go_roundg (l.length - (k + 1))
          case measure => omega
          case rel => exact ⟨k + 1, by omega, by go_num, by show PL _ _ _ _; rw [FT.out]; exact HP3.out⟩
        · have ea : (x2 == a) = false := by simp [hxa]
          have FT := Lib.hid (FT0.out.trans ((congrArg (fun z => mkP (oo ++ z)) (congr (congrArg HAppend.hAppend H0.out) (HX3.out hxa))).trans A1.out))
          clear hda hxa FT0 HX0 HX1 HX2 HX3 A0 A1 A2 A3 H0 hoo
          generalize mkP oo = o at *
          obtain ⟨AV, cv, rfl, _, _⟩ := HP.out.slice
          have C := Lib.hid (radd_any wr.heap.size AV o cv (x1, x2) wr HP.out.sees (Nat.le_refl _) L0)
          dsimp only at C
          obtain ⟨c0, c1⟩ := CF.out _ HP.out.blw
          go_wp2_with fail
          refine C.out.mono ?_
          rintro e W2 ⟨v, rfl, hP⟩
          have HP2 := Lib.hid (hP.base HP.out.blw)
          clear hP C c0 c1
          obtain ⟨c0, c1⟩ := CF.out _ HP2.out.blw
          go_wp2
          go_roundg (l.length - (k + 1))
          case measure => omega
          case rel => exact ⟨k + 1, by omega, by go_num, by show PL _ _ _ _; rw [FT.out]; exact HP2.out⟩
      · have ed : (d == a) = false := by simp [hda]
        by_cases hxd : x2 = d
        · have ex : (x2 != d) = false := by simp [hxd]
          have H0 := Lib.hid (HX1.out (fun h => h.elim hda fun h => h hxd))
          by_cases hxa : x2 = a
          · have ea : (x2 == a) = true := by simp [hxa]
            have FT := Lib.hid (FT0.out.trans ((congrArg (fun z => mkP (oo ++ z)) (congr (congrArg HAppend.hAppend H0.out) (HX2.out hxa))).trans A2.out))
            clear hda hxd hxa FT0 HX0 HX1 HX2 HX3 A0 A1 A2 A3 H0 hoo
            generalize mkP oo = o at *
            obtain ⟨AV, cv, rfl, _, _⟩ := HP.out.slice
            have C := Lib.hid (radd_any wr.heap.size AV o cv (x1, d) wr HP.out.sees (Nat.le_refl _) L0)
            dsimp only at C
            obtain ⟨c0, c1⟩ := CF.out _ HP.out.blw
            go_wp2_with fail
            refine C.out.mono ?_
            rintro e W2 ⟨v, rfl, hP⟩
            have HP2 := Lib.hid (hP.base HP.out.blw)
            clear hP C c0 c1
            go_wp2
            go_roundg (l.length - (k + 1))
            case measure => omega
            case rel => exact ⟨k + 1, by omega, by go_num, by show PL _ _ _ _; rw [FT.out]; exact HP2.out⟩
          · have ea : (x2 == a) = false := by simp [hxa]
            have FT := Lib.hid (FT0.out.trans ((congrArg (fun z => mkP (oo ++ z)) (congr (congrArg HAppend.hAppend H0.out) (HX3.out hxa))).trans A0.out))
            clear hda hxd hxa FT0 HX0 HX1 HX2 HX3 A0 A1 A2 A3 H0 hoo
            obtain ⟨c0, c1⟩ := CF.out _ HP.out.blw
            go_wp2
            go_roundg (l.length - (k + 1))
            case measure => omega
            case rel => exact ⟨k + 1, by omega, by go_num, by show PL _ _ _ _; rw [FT.out]; exact HP.out⟩
        · have ex : (x2 != d) = true := by simp [hxd]
          have H0 := Lib.hid (HX0.out (.inr hxd))
          by_cases hxa : x2 = a
          · have ea : (x2 == a) = true := by simp [hxa]
            have FT := Lib.hid (FT0.out.trans ((congrArg (fun z => mkP (oo ++ z)) (congr (congrArg HAppend.hAppend H0.out) (HX2.out hxa))).trans A3.out))
            clear hda hxd hxa FT0 HX0 HX1 HX2 HX3 A0 A1 A2 A3 H0 hoo
            generalize mkP oo = o at *
            obtain ⟨AV, cv, rfl, _, _⟩ := HP.out.slice
            have C := Lib.hid (radd_any wr.heap.size AV o cv (x1, x2) wr HP.out.sees (Nat.le_refl _) L0)
            dsimp only at C
            obtain ⟨c0, c1⟩ := CF.out _ HP.out.blw
            go_wp2_with fail
            refine C.out.mono ?_
            rintro e W2 ⟨v, rfl, hP⟩
            have HP2 := Lib.hid (hP.base HP.out.blw)
            clear hP C c0 c1
            generalize addP o (x1, x2) = o2 at *
            obtain ⟨AV, cv, rfl, _, _⟩ := HP2.out.slice
            have C := Lib.hid (radd_any W2.heap.size AV o2 cv (x1, d) W2 HP2.out.sees (Nat.le_refl _) L1)
            dsimp only at C
            obtain ⟨c0, c1⟩ := CF.out _ HP2.out.blw
            go_wp2_with fail
            refine C.out.mono ?_
            rintro e W3 ⟨v, rfl, hP⟩
            have HP3 := Lib.hid (hP.base HP2.out.blw)
            clear hP C c0 c1
            go_wp2
            go_roundg (l.length - (k + 1))
            case measure => omega
            case rel => exact ⟨k + 1, by omega, by go_num, by show PL _ _ _ _; rw [FT.out]; exact HP3.out⟩
          · have ea : (x2 == a) = false := by simp [hxa]
            have FT := Lib.hid (FT0.out.trans ((congrArg (fun z => mkP (oo ++ z)) (congr (congrArg HAppend.hAppend H0.out) (HX3.out hxa))).trans A1.out))
            clear hda hxd hxa FT0 HX0 HX1 HX2 HX3 A0 A1 A2 A3 H0 hoo
            generalize mkP oo = o at *
            obtain ⟨AV, cv, rfl, _, _⟩ := HP.out.slice
            have C := Lib.hid (radd_any wr.heap.size AV o cv (x1, x2) wr HP.out.sees (Nat.le_refl _) L0)
            dsimp only at C
            obtain ⟨c0, c1⟩ := CF.out _ HP.out.blw
            go_wp2_with fail
            refine C.out.mono ?_
            rintro e W2 ⟨v, rfl, hP⟩
            have HP2 := Lib.hid (hP.base HP.out.blw)
            clear hP C c0 c1
            obtain ⟨c0, c1⟩ := CF.out _ HP2.out.blw
            go_wp2
            go_roundg (l.length - (k + 1))
            case measure => omega
            case rel => exact ⟨k + 1, by omega, by go_num, by show PL _ _ _ _; rw [FT.out]; exact HP2.out⟩
    · have hk2 : l.take k = l := List.take_of_length_le (by omega)
      rw [hk2] at HP
      have hkz : ¬ (k : Int) < (l.length : Int) := by omega
      clear hk2 hs
      go_wp2
      go_ret
      exact ⟨_, rfl, HP.out⟩

/-- A literal list of one pair is a list of one's own. -/
theorem PL.lit (w : World) (d t : Int) : PL w (.slice (some ⟨w.heap.size, 0, none⟩) 1 1) [(d, t)] (w.alloc (prObj d t)) :=
  ⟨⟨by simp [prs], .inr ⟨w.heap.size, 1, #[.int .i64 d, .int .i64 t], rfl, Nat.le_refl _, heap_alloc_new w _, Nat.le_refl _, by unfold maxLen; omega, by simp, by simp [prs]⟩⟩, (Below.refl _ _).alloc (Nat.le_refl _) _⟩

theorem mkP_one (p : Pr) : mkP [p] = [p] := mkP_self (List.pairwise_singleton _ _)

set_option maxRecDepth 100000 in
set_option maxHeartbeats 4000000 in
theorem rtdefine_any (B : Nat) (A : Option Addr) (l : List Pr) (c : Nat) (d a : Int) (w : World) (hs : Sees w B A (prs l)) (hB : B ≤ w.heap.size) (hm : l.length ≤ 400000) :
    Calls Tryz.prog 53 #[.slice A l.length c, .int .i64 d, .int .i64 a] w fun e w' => ∃ v, e = .returned v ∧ PL w v (dfP l d a) w' := by
  rw [← dfS_eq]
  have HP0 : Hid (PL w (.slice (some ⟨w.heap.size, 0, none⟩) 1 1) (mkP ([(d, a)] ++ (l.take 0).flatMap (dfS d a))) (w.alloc (prObj d a))) := by
    show PL _ _ _ _
    rw [List.take_zero, List.flatMap_nil, List.append_nil, mkP_one]
    exact PL.lit w d a
  go_enter Tryz.func53, Tryz.ntmps53
  go_wp2
  generalize (w.alloc (.cells #[.int .i64 d, .int .i64 a] 59)) = W0 at *
  go_loopg [7, 8] l.length (fun g v7 v8 wr => ∃ k : Nat, k + g = l.length ∧ v8 = .int .i64 k ∧ Hid (PL w v7 (mkP ([(d, a)] ++ (l.take k).flatMap (dfS d a))) wr))
  case atStart => exact ⟨0, by omega, by go_num, HP0.out⟩
  case round =>
    clear HP0
    obtain ⟨k, hg, rfl, HP⟩ := hrel
    by_cases hlt : k < l.length
    · have FT0 : mkP ([(d, a)] ++ (l.take (k + 1)).flatMap (dfS d a)) = mkP ([(d, a)] ++ (l.take k).flatMap (dfS d a) ++ dfS d a l[k]) := by rw [flat_take hlt, List.append_assoc]
      have hoo : ([(d, a)] ++ (l.take k).flatMap (dfS d a)).length ≤ 900000 := by
        have := flat_len (dfS_len d a) (l.take k)
        simp only [List.length_append, List.length_take, List.length_singleton] at *
        omega
      generalize [(d, a)] ++ (l.take k).flatMap (dfS d a) = oo at *
      obtain ⟨b1, o1, rfl, hb, hc0, hc1⟩ := sees_pair hs hlt
      obtain ⟨x, hx⟩ : ∃ x, x = l[k] := ⟨_, rfl⟩
      rw [← hx] at hc0 hc1 FT0
      clear hx
      obtain ⟨x1, x2⟩ := x
      dsimp only at hc0 hc1
      have CF : Hid (∀ W, Below w.heap.size w W → W.cell? ⟨b1, o1 + k * 2, none⟩ = some (.int .i64 x1) ∧ W.cell? ⟨b1, o1 + k * 2 + 1, none⟩ = some (.int .i64 x2)) := fun W h =>
        ⟨(h.cell (p := ⟨b1, _, none⟩) (by show b1 < _; omega)).trans hc0, (h.cell (p := ⟨b1, _, none⟩) (by show b1 < _; omega)).trans hc1⟩
      have hkz : (k : Int) < (l.length : Int) := by omega
      clear hc0 hc1 hs
      have L0 : (mkP oo).length ≤ 1000000 := Nat.le_trans (mkP_len _) (by omega)
      have A0 : Hid (mkP (oo ++ []) = mkP oo) := by show _ = _; rw [List.append_nil]
      have A1 : Hid (mkP (oo ++ [(x1, x2)]) = addP (mkP oo) (x1, x2)) := mkP_snoc _ _
      have HX1 : Hid (x1 ≠ d ∧ x2 ≠ a → dfS d a (x1, x2) = [(x1, x2)]) := fun h => if_pos h
      have HX0 : Hid (¬ (x1 ≠ d ∧ x2 ≠ a) → dfS d a (x1, x2) = []) := fun h => if_neg h
      generalize dfS d a (x1, x2) = z at *
      have FT0 := Lib.hid FT0
      by_cases hxd : x1 = d
      · have ex : (x1 != d) = false := by simp [hxd]
        have H0 := Lib.hid (HX0.out fun h => h.1 hxd)
        have FT := Lib.hid (FT0.out.trans ((congrArg (fun z => mkP (oo ++ z)) H0.out).trans A0.out))
        clear hxd FT0 HX0 HX1 A0 A1 H0 hoo
        obtain ⟨c0, c1⟩ := CF.out _ HP.out.blw
        go_wp2
        go_roundg (l.length - (k + 1))
        case measure => omega
        case rel => exact ⟨k + 1, by omega, by go_num, by show PL _ _ _ _; rw [FT.out]; exact HP.out⟩
      · have ex : (x1 != d) = true := by simp [hxd]
        by_cases hxa : x2 = a
        · have ea : (x2 != a) = false := by simp [hxa]
          have H0 := Lib.hid (HX0.out fun h => h.2 hxa)
          have FT := Lib.hid (FT0.out.trans ((congrArg (fun z => mkP (oo ++ z)) H0.out).trans A0.out))
          clear hxd hxa FT0 HX0 HX1 A0 A1 H0 hoo
          obtain ⟨c0, c1⟩ := CF.out _ HP.out.blw
          go_wp2
          go_roundg (l.length - (k + 1))
          case measure => omega
          case rel => exact ⟨k + 1, by omega, by go_num, by show PL _ _ _ _; rw [FT.out]; exact HP.out⟩
        · have ea : (x2 != a) = true := by simp [hxa]
          have H0 := Lib.hid (HX1.out ⟨hxd, hxa⟩)
          have FT := Lib.hid (FT0.out.trans ((congrArg (fun z => mkP (oo ++ z)) H0.out).trans A1.out))
          clear hxd hxa FT0 HX0 HX1 A0 A1 H0 hoo
          generalize mkP oo = o at *
          obtain ⟨AV, cv, rfl, _, _⟩ := HP.out.slice
          have C := Lib.hid (radd_any wr.heap.size AV o cv (x1, x2) wr HP.out.sees (Nat.le_refl _) L0)
          dsimp only at C
          obtain ⟨c0, c1⟩ := CF.out _ HP.out.blw
          go_wp2_with fail
          refine C.out.mono ?_
          rintro e W2 ⟨v, rfl, hP⟩
          have HP2 := Lib.hid (hP.base HP.out.blw)
          clear hP C c0 c1
          go_wp2
          go_roundg (l.length - (k + 1))
          case measure => omega
          case rel => exact ⟨k + 1, by omega, by go_num, by show PL _ _ _ _; rw [FT.out]; exact HP2.out⟩
    · have hk2 : l.take k = l := List.take_of_length_le (by omega)
      rw [hk2] at HP
      have hkz : ¬ (k : Int) < (l.length : Int) := by omega
      clear hk2 hs
      go_wp2
      go_ret
      exact ⟨_, rfl, HP.out⟩

/-! Over lists that are seen. -/

section
variable {w : World} {A : Option Addr} {n c : Nat} {l : List Pr}

theorem rcopy_ls (d a : Int) (h : LS w A n c l) (hs : Srt l) (hn : n ≤ 500) : Calls Tryz.prog 47 #[.slice A n c, .int .i64 d, .int .i64 a] w (PV w (cpP l d a)) := by
  obtain ⟨rfl, _, _, h4, _⟩ := id h
  refine (rtcopy_any w.heap.size A l c d a w h4 (Nat.le_refl _) (by omega)).mono fun _ _ hh => PV.of (Nat.le_trans (cpP_len _ _ _) (by omega)) ?_
  rw [← cpS_eq hs]
  exact hh

theorem rmove_ls (d a : Int) (h : LS w A n c l) (hs : Srt l) (hn : n ≤ 500) : Calls Tryz.prog 48 #[.slice A n c, .int .i64 d, .int .i64 a] w (PV w (mvP l d a)) := by
  obtain ⟨rfl, _, _, h4, _⟩ := id h
  refine (rtmove_any w.heap.size A l c d a w h4 (Nat.le_refl _) (by omega)).mono fun _ _ hh => PV.of (Nat.le_trans (mvP_len _ _ _) (by omega)) ?_
  rw [← mvS_eq hs]
  exact hh

theorem rdefine_ls (d a : Int) (h : LS w A n c l) (hn : n ≤ 500) : Calls Tryz.prog 53 #[.slice A n c, .int .i64 d, .int .i64 a] w (PV w (dfP l d a)) := by
  obtain ⟨rfl, _, _, h4, _⟩ := id h
  exact (rtdefine_any w.heap.size A l c d a w h4 (Nat.le_refl _) (by omega)).mono fun _ _ => PV.of (Nat.le_trans (dfP_len _ _ _) (by omega))

end

end Go.Proofs.YtapdheabblgbaaaGreat
