/-
  The walk of the statement that all functions of layer 3 return what the reference returns.
-/
import Derived.Test.YtgipdebkikldaaaSecAwake
import Derived.Test.YtgipdebkikldaaaSecRsplit
import Derived.Test.YtgipdebkikldaaaSecIn
namespace Go.Proofs.Ytgipdebkikldaaa
open Go.RowKit
set_option linter.unusedVariables false

theorem rsplit_same (B : Nat) (A A' : Option Addr) (l ids : List Nat) (c c' : Nat) (w : World) (hs : Sees w B A (bts l)) (hi : Sees w B A' (bts ids)) (hB : B ≤ w.heap.size) (hby : Byt l) (hbi : Byt ids) (hm : l.length ≤ 1000000) (hn : ids.length ≤ 1000) (hlc : l.length ≤ c) (hc : c ≤ maxLen) :
    Calls Try.prog 10 #[.slice A l.length c, .slice A' ids.length c'] w (ContP w ids l) := by
  refine (rsplit_any B A A' l ids c c' w hs hi hB hby hbi hm hn hlc hc).mono ?_
  rintro e w' ⟨hb, ⟨h1, v, vs, rfl, ho, hv⟩ | ⟨h1, rfl⟩⟩
  · rw [hv.1] at ho
    obtain ⟨A2, c2, rfl, _, _⟩ := own_slice ho hv.1
    have hC : contS ids l = (splitF ids l).2.1 := if_pos h1
    exact ⟨A2, c2, by rw [hC, h1]; rfl, by rw [hC]; exact ⟨vs, Sees.of_own ho, hv.more hb.size⟩, hb⟩
  · have hC : contS ids l = [] := if_neg h1
    exact ⟨none, 0, by rw [hC]; rfl, by rw [hC]; exact SeesL.nil, hb⟩

set_option maxRecDepth 100000 in
set_option maxHeartbeats 8000000 in
theorem SectionMatchesReference_walk (a0 : Option Addr) (len0 cap0 : Nat) (z0 : List Int) (a1 : Option Addr) (len1 cap1 : Nat) (z1 : List Int) (a2 : Option Addr) (len2 cap2 : Nat) (w : World) (w0 : IsRow .u8 w a0 len0 cap0 z0) (w1 : IsRow .u8 w a1 len1 cap1 z1) (w2 : IsLists w a2 len2 cap2) :
    Calls Try.prog 3 #[.slice a0 len0 cap0, .slice a1 len1 cap1, .slice a2 len2 cap2] w fun e w' => e = .returned (.bool true) ∧ Below w.heap.size w w' := by
  obtain ⟨b, rfl, hby, hsb, hlc0, hcm0⟩ := w0.bytes
  obtain ⟨ids, rfl, hbi, hsi, hlc1, hcm1⟩ := w1.bytes
  obtain ⟨xs, rfl, hsx, hbx, hlc2, hcm2⟩ := w2
  clear w0 w1
  by_cases hlong : b.length ≤ 2000 ∧ ids.length ≤ 100
  case neg =>
    have HLG : 2000 < b.length ∨ (b.length ≤ 2000 ∧ 100 < ids.length) := by omega
    unfold maxLen at hcm0 hcm1 hcm2
    clear hlong
    rcases HLG with h1 | ⟨h1, h2⟩
    all_goals
      go_enter Try.func3, Try.ntmps3
      go_wp2_with fail
      refine (awake_any _).mono ?_
      rintro e W ⟨rfl, hb⟩
      go_wp2_with fail
      refine (awake_any _).mono ?_
      rintro e W2 ⟨rfl, hb2⟩
      go_wp2_with fail
      go_ret
      exact ⟨rfl, hb.trans (hb2.mono hb.size)⟩
  obtain ⟨l0, l1⟩ := hlong
  have HBY := Lib.hid hby
  have HBI := Lib.hid hbi
  have HCM := Lib.hid hcm0
  have hcn := contS_len ids b hby
  clear hby hbi hbx
  go_enter Try.func3, Try.ntmps3
  go_wp2_with fail
  refine (awake_any _).mono ?_
  rintro e W ⟨rfl, hb⟩
  have HB := Lib.hid hb
  clear hb
  go_wp2_with fail
  refine (few_any w.heap.size a2 xs cap2 W (hsx.below HB.out) (by omega)).mono ?_
  rintro e W1 ⟨bb, rfl, hF, n1, hW1⟩
  have HB1 : Hid (Below w.heap.size w W1) := by
    rw [← hW1]
    exact blw_drewN HB.out _
  clear hW1 HB
  cases bb
  · clear hF
    go_wp2_with fail
    refine (awake_any _).mono ?_
    rintro e W2 ⟨rfl, hb2⟩
    go_wp2_with fail
    go_ret
    exact ⟨rfl, HB1.out.trans (hb2.mono HB1.out.size)⟩
  obtain ⟨hx100, htot⟩ := hF rfl
  have hsz := sizeS_le xs
  go_wp2_with fail
  refine (split_same w.heap.size a0 a1 b ids cap0 cap1 W1 (hsb.below HB1.out) (hsi.below HB1.out) HB1.out.size HBY.out HBI.out (by omega) (by omega)).mono ?_
  rintro e W2 ⟨A2, c2, rfl, hs2, hb2⟩
  have HB2 := Lib.hid (HB1.out.trans (hb2.mono HB1.out.size))
  have HS2 := Lib.hid hs2
  clear hb2 hs2 HB1
  go_wp2_with fail
  refine (rsplit_same w.heap.size a0 a1 b ids cap0 cap1 W2 (hsb.below HB2.out) (hsi.below HB2.out) HB2.out.size HBY.out HBI.out (by omega) (by omega) hlc0 HCM.out).mono ?_
  rintro e W3 ⟨A3, c3, rfl, hs3, hb3⟩
  have HB3 := Lib.hid (HB2.out.trans (hb3.mono HB2.out.size))
  have HS3 := Lib.hid hs3
  have HS2' := Lib.hid ((HS2.out.below hb3).more hb3.size)
  clear hb3 hs3 HB2 HS2
  go_wp2_with fail
  have hsl := sameL_any W3.heap.size A2 A3 (contS ids b) (contS ids b) c2 c3 W3 HS2'.out HS3.out (by omega) (by omega)
  rw [sameL_self] at hsl
  refine hsl.mono ?_
  rintro e W4 ⟨rfl, n4, hW4⟩
  have HB4 : Hid (Below w.heap.size w W4) := by
    rw [← hW4]
    exact blw_drewN HB3.out _
  clear hW4 hsl HS2' HS3 HB3
  have e1 : (((splitE ids b : Nat) : Int) != ((splitE ids b : Nat) : Int)) = false := by simp
  by_cases hlen : ids.length = xs.length
  case neg =>
    have e2 : ((ids.length : Int) != (xs.length : Int)) = true := by simp; omega
    go_wp2_with fail
    refine (pack_bad ids.length xs.length a1 a2 cap1 cap2 W4 hlen).mono ?_
    rintro e W5 ⟨rfl, rfl⟩
    clear hlen
    go_wp2
    go_ret
    exact ⟨rfl, HB4.out⟩
  have e2 : ((ids.length : Int) != (xs.length : Int)) = false := by simp; omega
  have HL := Lib.hid hlen
  have HPS := Lib.hid (packS_size ids xs hlen)
  clear hlen
  go_wp2_with fail
  refine (pack_any w.heap.size a1 a2 ids xs cap1 cap2 W4 (hsi.below HB4.out) (hsx.below HB4.out) HB4.out.size HL.out HBI.out (by omega) (by omega) (by omega)).mono ?_
  rintro e W5 ⟨A5, c5, rfl, ho5, hb5⟩
  have HB5 := Lib.hid (HB4.out.trans (hb5.mono HB4.out.size))
  have HO5 := Lib.hid ho5
  clear ho5 hb5 HB4
  go_wp2_with fail
  refine (rpack_any w.heap.size a1 a2 ids xs cap1 cap2 W5 (hsi.below HB5.out) (hsx.below HB5.out) HB5.out.size HL.out HBI.out (by omega) (by omega) (by omega)).mono ?_
  rintro e W6 ⟨A6, c6, rfl, ho6, hb6⟩
  have HB6 := Lib.hid (HB5.out.trans (hb6.mono HB5.out.size))
  have HO6 := Lib.hid ho6
  have HS5 := Lib.hid (((Sees.of_own HO5.out).below hb6).more hb6.size)
  have hpl : (packS ids xs).length ≤ 100000 := by rw [HPS.out]; omega
  clear ho6 hb6 HB5 HO5
  go_wp2_with fail
  refine (same_at (packS ids xs) (packS ids xs) true _ _ W6.heap.size A5 A6 c5 c6 W6 (sameB_self _) rfl rfl (by unfold maxLen; omega) (by unfold maxLen; omega) HS5.out (Sees.of_own HO6.out)).mono ?_
  rintro e W7 ⟨rfl, n7, hW7⟩
  have HB7 : Hid (Below w.heap.size w W7) := by
    rw [← hW7]
    exact blw_drewN HB6.out _
  clear hW7 HS5 HO6 HB6
  go_wp2_with fail
  refine (size_any w.heap.size a2 xs cap2 W7 (hsx.below HB7.out) (by omega) (by omega)).mono ?_
  rintro e W8 ⟨rfl, rfl⟩
  have e3 : (((sizeS xs : Nat) : Int) == ((packS ids xs).length : Int)) = true := by rw [HPS.out]; simp
  go_wp2
  go_ret
  exact ⟨rfl, HB7.out⟩

end Go.Proofs.Ytgipdebkikldaaa
