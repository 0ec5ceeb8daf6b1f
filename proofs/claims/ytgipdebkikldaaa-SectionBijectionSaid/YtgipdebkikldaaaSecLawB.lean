/-
  The walk of the statement that packing and splitting undo one another.
-/
import Derived.Test.YtgipdebkikldaaaSecAwake
import Derived.Test.YtgipdebkikldaaaSecIn
namespace Go.Proofs.Ytgipdebkikldaaa
open Go.RowKit
set_option linter.unusedVariables false

theorem totalS_le : ∀ xs : List (List Nat), totalS xs ≤ sizeS xs
  | [] => Nat.le_refl _
  | x :: xs => by
    have := totalS_le xs
    rw [totalS, sizeS]
    omega

set_option maxRecDepth 100000 in
set_option maxHeartbeats 600000 in
theorem SectionBijection_walk (a0 : Option Addr) (len0 cap0 : Nat) (z0 : List Int) (a1 : Option Addr) (len1 cap1 : Nat) (a2 : Option Addr) (len2 cap2 : Nat) (z2 : List Int) (w : World) (w0 : IsRow .u8 w a0 len0 cap0 z0) (w1 : IsLists w a1 len1 cap1) (w2 : IsRow .u8 w a2 len2 cap2 z2) :
    Calls Try.prog 4 #[.slice a0 len0 cap0, .slice a1 len1 cap1, .slice a2 len2 cap2] w fun e w' => e = .returned (.bool true) ∧ Below w.heap.size w w' := by
  obtain ⟨ids, rfl, hbi, hsi, hlc0, hcm0⟩ := w0.bytes
  obtain ⟨xs, rfl, hsx, hbx, hlc1, hcm1⟩ := w1
  obtain ⟨b, rfl, hby, hsb, hlc2, hcm2⟩ := w2.bytes
  clear w0 w2
  by_cases hlong : b.length ≤ 2000 ∧ ids.length ≤ 100
  case neg =>
    have HLG : 2000 < b.length ∨ (b.length ≤ 2000 ∧ 100 < ids.length) := by omega
    unfold maxLen at hcm0 hcm1 hcm2
    clear hlong
    rcases HLG with h1 | ⟨h1, h2⟩
    all_goals
      go_enter Try.func4, Try.ntmps4
      go_wp2_with fail
      refine (awake_any _).mono ?_
      rintro e W ⟨rfl, hb⟩
      go_wp2_with fail
      refine (awake_any _).mono ?_
      rintro e W2 ⟨rfl, hb2⟩
      go_wp2_with fail
      go_ret
      exact ⟨rfl, hb.trans (hb2.mono hb.size)⟩
  obtain ⟨l0, l1⟩ := hlong
  have HBY := Lib.hid hby
  have HBI := Lib.hid hbi
  have HBX := Lib.hid hbx
  clear hby hbi hbx
  go_enter Try.func4, Try.ntmps4
  go_wp2_with fail
  refine (awake_any _).mono ?_
  rintro e W ⟨rfl, hb⟩
  have HB := Lib.hid hb
  clear hb
  go_wp2_with fail
  refine (few_any w.heap.size a1 xs cap1 W (hsx.below HB.out) (by omega)).mono ?_
  rintro e W1 ⟨bb, rfl, hF, n1, hW1⟩
  have HB1 : Hid (Below w.heap.size w W1) := by
    rw [← hW1]
    exact blw_drewN HB.out _
  clear hW1 HB
  cases bb
  · clear hF
    go_wp2_with fail
    refine (awake_any _).mono ?_
    rintro e W2 ⟨rfl, hb2⟩
    go_wp2_with fail
    go_ret
    exact ⟨rfl, HB1.out.trans (hb2.mono HB1.out.size)⟩
  obtain ⟨hx100, htot⟩ := hF rfl
  clear hF
  have hsz := sizeS_le xs
  have hxb : ∀ x ∈ xs, x.length < 18446744073709551616 := fun x hx => by have := totalS_mem xs x hx; omega
  have HXB := Lib.hid hxb
  clear hxb
  by_cases hE : splitE ids b = 0
  · obtain ⟨hp, hpl⟩ := split_canon HBY.out hE
    have hss : sizeS (splitF ids b).2.1 ≤ 2000 := by rw [← packS_size ids (splitF ids b).2.1 hpl.symm, hp]; exact l0
    have htt : totalS (splitF ids b).2.1 ≤ 2000 := Nat.le_trans (totalS_le _) hss
    have hyl : (splitF ids b).2.1.length ≤ 100 := by rw [hpl]; exact l1
    have HP := Lib.hid hp
    have HPL := Lib.hid hpl
    clear hp hpl
    go_wp2_with fail
    refine (split_ok w.heap.size a2 a0 b ids cap2 cap0 W1 (hsb.below HB1.out) (hsi.below HB1.out) HB1.out.size HBY.out HBI.out (by omega) (by omega) (splitF ids b).2.1 hE rfl).mono ?_
    rintro e W2 ⟨A2, c2, rfl, hl2, hb2⟩
    have HB2 := Lib.hid (HB1.out.trans (hb2.mono HB1.out.size))
    have HS2 := Lib.hid hl2.seen
    clear hl2 hb2 HB1
    generalize (splitF ids b).2.1 = ys at *
    go_wp2_with fail
    refine (pack_any W2.heap.size a0 A2 ids ys cap0 c2 W2 ((hsi.below HB2.out).more HB2.out.size) HS2.out (Nat.le_refl _) HPL.out.symm HBI.out (by omega) (by omega) (by omega)).mono ?_
    rintro e W3 ⟨A3, c3, rfl, ho3, hb3⟩
    rw [HP.out] at ho3 ⊢
    have HB3 := Lib.hid (HB2.out.trans (hb3.mono HB2.out.size))
    have HO3 := Lib.hid ho3
    clear ho3 hb3 HB2 HS2
    go_wp2_with fail
    refine (same_at b b true _ _ W3.heap.size A3 a2 c3 cap2 W3 (sameB_self _) rfl rfl (by unfold maxLen; omega) (by unfold maxLen; omega) (Sees.of_own HO3.out) ((hsb.below HB3.out).more HB3.out.size)).mono ?_
    rintro e W4 ⟨rfl, n4, hW4⟩
    have HB4 : Hid (Below w.heap.size w W4) := by
      rw [← hW4]
      exact blw_drewN HB3.out _
    clear hW4 HO3 HB3
    by_cases hlen : ids.length = xs.length
    case neg =>
      have e2 : ((ids.length : Int) != (xs.length : Int)) = true := by simp; omega
      clear hlen
      go_wp2
      go_ret
      exact ⟨rfl, HB4.out⟩
    have e2 : ((ids.length : Int) != (xs.length : Int)) = false := by simp; omega
    have HL := Lib.hid hlen
    have hps : (packS ids xs).length ≤ 3100 := by rw [packS_size ids xs hlen]; omega
    have HE := Lib.hid (splitE_pack ids xs hlen HXB.out)
    have HF := Lib.hid (split_pack ids xs hlen HXB.out)
    have HPB := Lib.hid (packS_byt ids xs HBI.out HBX.out HXB.out)
    clear hlen
    go_wp2_with fail
    refine (pack_any w.heap.size a0 a1 ids xs cap0 cap1 W4 (hsi.below HB4.out) (hsx.below HB4.out) HB4.out.size HL.out HBI.out (by omega) (by omega) (by omega)).mono ?_
    rintro e W10 ⟨A10, c10, rfl, ho10, hb10⟩
    have HB10 := Lib.hid (HB4.out.trans (hb10.mono HB4.out.size))
    have HO10 := Lib.hid ho10
    clear ho10 hb10 HB4
    go_wp2_with fail
    refine (split_ok W10.heap.size A10 a0 (packS ids xs) ids c10 cap0 W10 (Sees.of_own HO10.out) ((hsi.below HB10.out).more HB10.out.size) (Nat.le_refl _) HPB.out HBI.out (by omega) (by omega) xs HE.out (by rw [HF.out])).mono ?_
    rintro e W11 ⟨A11, c11, rfl, hl11, hb11⟩
    have HB11 := Lib.hid (HB10.out.trans (hb11.mono HB10.out.size))
    have HS11 := Lib.hid hl11.seen
    clear hl11 hb11 HB10 HO10
    go_wp2_with fail
    have hsl := sameL_any W11.heap.size A11 a1 xs xs c11 cap1 W11 HS11.out ((hsx.below HB11.out).more HB11.out.size) (by omega) (by omega)
    rw [sameL_self] at hsl
    refine hsl.mono ?_
    rintro e W12 ⟨rfl, n12, hW12⟩
    have HB12 : Hid (Below w.heap.size w W12) := by
      rw [← hW12]
      exact blw_drewN HB11.out _
    clear hW12 hsl HS11 HB11
    go_wp2
    go_ret
    exact ⟨rfl, HB12.out⟩
  · have e1 : (((splitE ids b : Nat) : Int) == 0) = false := by simp; omega
    go_wp2_with fail
    refine (split_bad w.heap.size a2 a0 b ids cap2 cap0 W1 (hsb.below HB1.out) (hsi.below HB1.out) HB1.out.size HBY.out HBI.out (by omega) (by omega) _ rfl hE).mono ?_
    rintro e W2 ⟨rfl, hb2⟩
    have HB2 := Lib.hid (HB1.out.trans (hb2.mono HB1.out.size))
    clear hb2 HB1
    by_cases hlen : ids.length = xs.length
    case neg =>
      have e2 : ((ids.length : Int) != (xs.length : Int)) = true := by simp; omega
      clear hlen
      go_wp2
      go_ret
      exact ⟨rfl, HB2.out⟩
    have e2 : ((ids.length : Int) != (xs.length : Int)) = false := by simp; omega
    have HL := Lib.hid hlen
    have hps : (packS ids xs).length ≤ 3100 := by rw [packS_size ids xs hlen]; omega
    have HE := Lib.hid (splitE_pack ids xs hlen HXB.out)
    have HF := Lib.hid (split_pack ids xs hlen HXB.out)
    have HPB := Lib.hid (packS_byt ids xs HBI.out HBX.out HXB.out)
    clear hlen
    go_wp2_with fail
    refine (pack_any w.heap.size a0 a1 ids xs cap0 cap1 W2 (hsi.below HB2.out) (hsx.below HB2.out) HB2.out.size HL.out HBI.out (by omega) (by omega) (by omega)).mono ?_
    rintro e W10 ⟨A10, c10, rfl, ho10, hb10⟩
    have HB10 := Lib.hid (HB2.out.trans (hb10.mono HB2.out.size))
    have HO10 := Lib.hid ho10
    clear ho10 hb10 HB2
    go_wp2_with fail
    refine (split_ok W10.heap.size A10 a0 (packS ids xs) ids c10 cap0 W10 (Sees.of_own HO10.out) ((hsi.below HB10.out).more HB10.out.size) (Nat.le_refl _) HPB.out HBI.out (by omega) (by omega) xs HE.out (by rw [HF.out])).mono ?_
    rintro e W11 ⟨A11, c11, rfl, hl11, hb11⟩
    have HB11 := Lib.hid (HB10.out.trans (hb11.mono HB10.out.size))
    have HS11 := Lib.hid hl11.seen
    clear hl11 hb11 HB10 HO10
    go_wp2_with fail
    have hsl := sameL_any W11.heap.size A11 a1 xs xs c11 cap1 W11 HS11.out ((hsx.below HB11.out).more HB11.out.size) (by omega) (by omega)
    rw [sameL_self] at hsl
    refine hsl.mono ?_
    rintro e W12 ⟨rfl, n12, hW12⟩
    have HB12 : Hid (Below w.heap.size w W12) := by
      rw [← hW12]
      exact blw_drewN HB11.out _
    clear hW12 hsl HS11 HB11
    go_wp2
    go_ret
    exact ⟨rfl, HB12.out⟩

end Go.Proofs.Ytgipdebkikldaaa
