/-
  The statements' examples: awake returns true.
-/
import Derived.Test.YtcnkkpnfijihbaaTrFns
namespace Go.Proofs.Ytcnkkpnfijihbaa
open Go.RowKit
set_option linter.unusedVariables false

structure AT (w : World) (W : World) : Prop where
  blw : Below w.heap.size w W
  l : LS W (some ⟨w.heap.size, 0, none⟩) 2 2 [(0, 2), (1, 4)]
theorem AT.below {w W W' : World} (h : AT w W) (hb : Below W.heap.size W W') : AT w W' := ⟨h.blw.trans (hb.mono h.blw.size), h.l.below hb⟩
theorem AT.alloc {w W : World} (h : AT w W) (o : Obj) : AT w (W.alloc o) := h.below ((Below.refl _ _).alloc (Nat.le_refl _) o)

theorem ex_srt12 : Srt [(0, 2), (1, 4)] := by unfold Srt; simp [ltP]

set_option maxRecDepth 100000 in
set_option maxHeartbeats 8000000 in
theorem awake_any (w : World) : Calls Try.prog 8 #[] w fun e w' => e = .returned (.bool true) ∧ Below w.heap.size w w' := by
  have HK0 : Hid (AT w (w.alloc (.cells #[.int .i64 0, .int .i64 2, .int .i64 1, .int .i64 4] 35))) := ⟨(Below.refl _ _).alloc (Nat.le_refl _) _, LS.two w 0 2 1 4⟩
  go_enter Try.func8, Try.ntmps8
  go_upto_region 2 with fail
  generalize (w.alloc (.cells #[.int .i64 0, .int .i64 2, .int .i64 1, .int .i64 4] 35)) = W0 at *
  have C1 := Lib.hid (copy_ls 1 0 HK0.out.l ex_srt12 (by omega))
  rw [show cpP [(0, 2), (1, 4)] 1 0 = [(0, 2), (1, 2)] by decide] at C1
  go_wp2_with fail
  refine C1.out.mono ?_
  rintro e W1 ⟨A, n, c, rfl, hP, hL⟩
  have HK1 := Lib.hid (HK0.out.below hP.blw)
  have C2 := Lib.hid (same_lsB (hL.below ((Below.refl _ _).alloc (Nat.le_refl _) (.cells #[.int .i64 0, .int .i64 2, .int .i64 1, .int .i64 2] 35))) (LS.two W1 0 2 1 2))
  rw [show decide ([((0 : Int), (2 : Int)), (1, 2)] = [((0 : Int), (2 : Int)), (1, 2)]) = true by decide] at C2
  clear hP hL C1 HK0
  go_wp2_with fail
  refine C2.out.mono ?_
  rintro e W2 ⟨rfl, hb⟩
  have HK2 := Lib.hid ((HK1.out.alloc (.cells #[.int .i64 0, .int .i64 2, .int .i64 1, .int .i64 2] 35)).below hb)
  clear hb C2 HK1
  have C1 := Lib.hid (move_ls 4 2 HK2.out.l ex_srt12 (by omega))
  rw [show mvP [(0, 2), (1, 4)] 4 2 = [(0, 2), (0, 4)] by decide] at C1
  go_wp2_with fail
  refine C1.out.mono ?_
  rintro e W3 ⟨A, n, c, rfl, hP, hL⟩
  have HK1 := Lib.hid (HK2.out.below hP.blw)
  have C2 := Lib.hid (same_lsB (hL.below ((Below.refl _ _).alloc (Nat.le_refl _) (.cells #[.int .i64 0, .int .i64 2, .int .i64 0, .int .i64 4] 35))) (LS.two W3 0 2 0 4))
  rw [show decide ([((0 : Int), (2 : Int)), (0, 4)] = [((0 : Int), (2 : Int)), (0, 4)]) = true by decide] at C2
  clear hP hL C1 HK2
  go_wp2_with fail
  refine C2.out.mono ?_
  rintro e W4 ⟨rfl, hb⟩
  have HK4 := Lib.hid ((HK1.out.alloc (.cells #[.int .i64 0, .int .i64 2, .int .i64 0, .int .i64 4] 35)).below hb)
  clear hb C2 HK1
  have C1 := Lib.hid (define_ls 1 2 HK4.out.l ex_srt12 (by omega))
  rw [show dfP [(0, 2), (1, 4)] 1 2 = [(1, 2)] by decide] at C1
  go_wp2_with fail
  refine C1.out.mono ?_
  rintro e W5 ⟨A, n, c, rfl, hP, hL⟩
  have HK1 := Lib.hid (HK4.out.below hP.blw)
  have C2 := Lib.hid (same_lsB (hL.below ((Below.refl _ _).alloc (Nat.le_refl _) (prObj 1 2))) (LS.one W5 1 2))
  rw [show decide ([((1 : Int), (2 : Int))] = [((1 : Int), (2 : Int))]) = true by decide] at C2
  clear hP hL C1 HK4
  go_wp2_with fail
  refine C2.out.mono ?_
  rintro e W6 ⟨rfl, hb⟩
  have HK6 := Lib.hid ((HK1.out.alloc (prObj 1 2)).below hb)
  clear hb C2 HK1
  have C1 := Lib.hid (copy_ls 1 1 HK6.out.l ex_srt12 (by omega))
  rw [show cpP [(0, 2), (1, 4)] 1 1 = [(0, 2), (1, 4)] by decide] at C1
  go_wp2_with fail
  refine C1.out.mono ?_
  rintro e W7 ⟨A, n, c, rfl, hP, hL⟩
  have HK7 := Lib.hid (HK6.out.below hP.blw)
  have C2 := Lib.hid (same_lsB hL HK7.out.l)
  rw [show decide ([((0 : Int), (2 : Int)), (1, 4)] = [(0, 2), (1, 4)]) = true by decide] at C2
  clear hP hL C1 HK6
  go_wp2_with fail
  refine C2.out.mono ?_
  rintro e W8 ⟨rfl, hb⟩
  have HK8 := Lib.hid (HK7.out.below hb)
  clear hb C2 HK7
  go_wp2
  go_ret
  exact ⟨rfl, HK8.out.blw⟩

end Go.Proofs.Ytcnkkpnfijihbaa
