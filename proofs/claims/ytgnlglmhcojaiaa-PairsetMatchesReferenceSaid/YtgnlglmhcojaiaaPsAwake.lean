/-
  The statements' examples: awake returns true.
-/
import Derived.Test.YtgnlglmhcojaiaaPsAt
namespace Go.Proofs.Ytgnlglmhcojaiaa
open Go.RowKit
set_option linter.unusedVariables false

structure AK (w : World) (mb : Nat) (A : Option Addr) (n c : Nat) (W : World) : Prop where
  blw : Below w.heap.size w W
  p : Row W w.heap.size 25 #[.int .i64 1, .int .i64 4]
  q : Row W (w.heap.size + 1) 25 #[.int .i64 0, .int .i64 6]
  m : Row W mb 25 #[.int .i64 1, .int .i64 4]
  l : LS W A n c [(0, 6), (1, 4)]

section
variable {w W W' : World} {mb : Nat} {A : Option Addr} {n c : Nat}
theorem AK.below (h : AK w mb A n c W) (hb : Below W.heap.size W W') : AK w mb A n c W' :=
  ⟨h.blw.trans (hb.mono h.blw.size), h.p.below hb h.p.lt, h.q.below hb h.q.lt, h.m.below hb h.m.lt, h.l.below hb⟩
theorem AK.grew (h : AK w mb A n c W) (hb : Grew W W') : AK w mb A n c W' := h.below hb.below
theorem AK.alloc (h : AK w mb A n c W) (o : Obj) : AK w mb A n c (W.alloc o) := h.below ((Below.refl _ _).alloc (Nat.le_refl _) o)
end

theorem ex_srt1 (p : Pr) : Srt [p] := List.pairwise_singleton _ _
theorem ex_srt2 : Srt [(0, 6), (1, 4)] := by unfold Srt; simp [ltP]

set_option maxRecDepth 100000 in
set_option maxHeartbeats 8000000 in
theorem awake_any (w : World) : Calls Try.prog 9 #[] w fun e w' => e = .returned (.bool true) ∧ Below w.heap.size w w' := by
  have hG := guard_pr
  have hb2 : Below w.heap.size w ((w.alloc (prObj 1 4)).alloc (prObj 0 6)) := ((Below.refl w.heap.size w).alloc (Nat.le_refl _) _).alloc (by simp) _
  have hP2 := (Row.new w 25 #[.int .i64 1, .int .i64 4]).alloc (prObj 0 6)
  have hQ2 := Row.new (w.alloc (prObj 1 4)) 25 #[.int .i64 0, .int .i64 6]
  rw [show (w.alloc (prObj 1 4)).heap.size = w.heap.size + 1 by simp] at hQ2
  go_enter Try.func9, Try.ntmps9
  go_upto_region 3 with fail
  generalize ((w.alloc (.cells #[.int .i64 1, .int .i64 4] 25)).alloc (.cells #[.int .i64 0, .int .i64 6] 25)) = W2 at *
  have p0 := hP2.cell 0; have p1 := hP2.cell 1; have q0 := hQ2.cell 0; have q1 := hQ2.cell 1
  simp only [List.getElem?_toArray, List.getElem?_cons_zero, List.getElem?_cons_succ] at p0 p1 q0 q1
  have C1 := Lib.hid (pmake_ls (LS.three W2 1 4 0 6 1 4))
  rw [show mkP [(1, 4), (0, 6), (1, 4)] = [(0, 6), (1, 4)] by decide] at C1
  have HB2 := Lib.hid hb2
  have HP2 := Lib.hid hP2
  have HQ2 := Lib.hid hQ2
  clear hb2 hP2 hQ2
  go_wp2_with fail
  refine C1.out.mono ?_
  rintro e W3 ⟨A, n, c, rfl, hP, hL⟩
  have hb3 : Below W2.heap.size W2 W3 := ((Below.refl _ _).alloc (Nat.le_refl _) (.cells #[.int .i64 1, .int .i64 4, .int .i64 0, .int .i64 6, .int .i64 1, .int .i64 4] 25)).trans (hP.blw.mono (by simp))
  have HK3 : Hid (AK w w.heap.size A n c W3) := ⟨HB2.out.trans (hb3.mono HB2.out.size), HP2.out.below hb3 HP2.out.lt, HQ2.out.below hb3 HQ2.out.lt, HP2.out.below hb3 HP2.out.lt, hL⟩
  clear p0 p1 q0 q1 hP hL hb3 HB2 HP2 HQ2 C1
  have p0 := HK3.out.p.cell 0
  have p1 := HK3.out.p.cell 1
  have q0 := HK3.out.q.cell 0
  have q1 := HK3.out.q.cell 1
  have m0 := HK3.out.m.cell 0
  have m1 := HK3.out.m.cell 1
  simp only [List.getElem?_toArray, List.getElem?_cons_zero, List.getElem?_cons_succ] at p0 p1 q0 q1 m0 m1
  have C2 := Lib.hid (pmissing_ls (HK3.out.l.below ((Below.refl W3.heap.size W3).alloc (Nat.le_refl _) (prObj 0 6))) (LS.one W3 0 6) ex_srt2 (ex_srt1 _))
  rw [show misP [(0, 6), (1, 4)] [(0, 6)] = some (1, 4) by decide] at C2
  unfold mres at C2
  dsimp only at C2
  go_wp2_with fail
  refine C2.out.mono ?_
  rintro e W4 ⟨rfl, hb⟩
  have hK4 := (HK3.out.alloc (prObj 0 6)).below hb
  have HK5 : Hid (AK w W4.heap.size A n c (W4.alloc (prObj 1 4))) := { hK4.alloc (prObj 1 4) with m := Row.new W4 _ _ }
  clear p0 p1 q0 q1 m0 m1 hb hK4 HK3 C2
  go_upto_region 5 with fail
  generalize (W4.alloc (.cells #[.int .i64 1, .int .i64 4] 25)) = W5 at *
  generalize W4.heap.size = mb at *
  have p0 := HK5.out.p.cell 0
  have p1 := HK5.out.p.cell 1
  have q0 := HK5.out.q.cell 0
  have q1 := HK5.out.q.cell 1
  have m0 := HK5.out.m.cell 0
  have m1 := HK5.out.m.cell 1
  simp only [List.getElem?_toArray, List.getElem?_cons_zero, List.getElem?_cons_succ] at p0 p1 q0 q1 m0 m1
  have C3 := Lib.hid (same_ls (HK5.out.alloc (.cells #[.int .i64 0, .int .i64 6, .int .i64 1, .int .i64 4] 25)).l (LS.two W5 0 6 1 4))
  rw [show decide ([((0 : Int), (6 : Int)), (1, 4)] = [(0, 6), (1, 4)]) = true by decide] at C3
  have hq : ∀ W, (binOp .eql 25 (.agg #[.int .i64 1, .int .i64 4]) (.agg #[.int .i64 1, .int .i64 4])).run Try.prog W = .ok (.bool true) W := fun W => eq_pr (1, 4) (1, 4) W
  have L1 := Lib.hid fun W => less_any (0, 6) (1, 4) W
  have L2 := Lib.hid fun W => less_any (1, 4) (1, 4) W
  rw [show ltP (0, 6) (1, 4) = true by decide] at L1
  rw [show ltP (1, 4) (1, 4) = false by decide] at L2
  go_wp2_with fail
  refine C3.out.mono ?_
  rintro e W6 ⟨rfl, hb⟩
  have HK6 := Lib.hid ((HK5.out.alloc (.cells #[.int .i64 0, .int .i64 6, .int .i64 1, .int .i64 4] 25)).grew hb)
  clear p0 p1 q0 q1 m0 m1 hb HK5 C3
  have p0 := HK6.out.p.cell 0
  have p1 := HK6.out.p.cell 1
  have q0 := HK6.out.q.cell 0
  have q1 := HK6.out.q.cell 1
  have m0 := HK6.out.m.cell 0
  have m1 := HK6.out.m.cell 1
  simp only [List.getElem?_toArray, List.getElem?_cons_zero, List.getElem?_cons_succ] at p0 p1 q0 q1 m0 m1
  go_wp2_with fail
  refine (L1.out _).mono ?_
  rintro e W7 ⟨rfl, hb⟩
  have HK7 := Lib.hid (HK6.out.grew hb)
  clear p0 p1 q0 q1 m0 m1 hb HK6 L1
  have p0 := HK7.out.p.cell 0
  have p1 := HK7.out.p.cell 1
  have q0 := HK7.out.q.cell 0
  have q1 := HK7.out.q.cell 1
  have m0 := HK7.out.m.cell 0
  have m1 := HK7.out.m.cell 1
  simp only [List.getElem?_toArray, List.getElem?_cons_zero, List.getElem?_cons_succ] at p0 p1 q0 q1 m0 m1
  go_wp2_with fail
  refine (L2.out _).mono ?_
  rintro e W8 ⟨rfl, hb⟩
  have HK8 := Lib.hid (HK7.out.grew hb)
  clear p0 p1 q0 q1 m0 m1 hb HK7 L2
  have p0 := HK8.out.p.cell 0
  have p1 := HK8.out.p.cell 1
  have q0 := HK8.out.q.cell 0
  have q1 := HK8.out.q.cell 1
  have m0 := HK8.out.m.cell 0
  have m1 := HK8.out.m.cell 1
  simp only [List.getElem?_toArray, List.getElem?_cons_zero, List.getElem?_cons_succ] at p0 p1 q0 q1 m0 m1
  have C4 := Lib.hid (phas_ls (0, 6) HK8.out.l ex_srt2)
  rw [show hasP [(0, 6), (1, 4)] (0, 6) = true by decide] at C4
  go_wp2_with fail
  refine C4.out.mono ?_
  rintro e W9 ⟨rfl, hb⟩
  have HK9 := Lib.hid (HK8.out.grew hb)
  clear p0 p1 q0 q1 m0 m1 hb HK8 C4
  have p0 := HK9.out.p.cell 0
  have p1 := HK9.out.p.cell 1
  have q0 := HK9.out.q.cell 0
  have q1 := HK9.out.q.cell 1
  have m0 := HK9.out.m.cell 0
  have m1 := HK9.out.m.cell 1
  simp only [List.getElem?_toArray, List.getElem?_cons_zero, List.getElem?_cons_succ] at p0 p1 q0 q1 m0 m1
  have HKa := Lib.hid (HK9.out.alloc (prObj 1 4))
  have r0 := HKa.out.q.cell 0
  have r1 := HKa.out.q.cell 1
  simp only [List.getElem?_toArray, List.getElem?_cons_zero, List.getElem?_cons_succ] at r0 r1
  have C5 := Lib.hid (padd_ls (0, 6) (LS.one W9 1 4) (ex_srt1 _) (by omega))
  rw [show mkP ([(1, 4)] ++ [(0, 6)]) = [(0, 6), (1, 4)] by decide] at C5
  go_wp2_with fail
  refine C5.out.mono ?_
  rintro e W10 ⟨A2, n2, c2, rfl, hP, hL⟩
  have HK10 := Lib.hid (HKa.out.below hP.blw)
  have C6 := Lib.hid (same_ls hL HK10.out.l)
  rw [show decide ([((0 : Int), (6 : Int)), (1, 4)] = [(0, 6), (1, 4)]) = true by decide] at C6
  clear p0 p1 q0 q1 m0 m1 r0 r1 HK9 HKa C5 hP hL
  go_wp2_with fail
  refine C6.out.mono ?_
  rintro e W11 ⟨rfl, hb⟩
  have HK11 := Lib.hid (HK10.out.grew hb)
  clear hb HK10 C6
  have p0 := HK11.out.p.cell 0
  have p1 := HK11.out.p.cell 1
  have q0 := HK11.out.q.cell 0
  have q1 := HK11.out.q.cell 1
  have m0 := HK11.out.m.cell 0
  have m1 := HK11.out.m.cell 1
  simp only [List.getElem?_toArray, List.getElem?_cons_zero, List.getElem?_cons_succ] at p0 p1 q0 q1 m0 m1
  have C7 := Lib.hid (psorted_ls (LS.two W11 1 4 1 4))
  rw [show srtB [(1, 4), (1, 4)] = false by decide] at C7
  go_wp2_with fail
  refine C7.out.mono ?_
  rintro e W12 ⟨rfl, hb⟩
  have HK12 := Lib.hid ((HK11.out.alloc _).grew hb)
  clear p0 p1 q0 q1 m0 m1 hb HK11 C7
  have p0 := HK12.out.p.cell 0
  have p1 := HK12.out.p.cell 1
  have q0 := HK12.out.q.cell 0
  have q1 := HK12.out.q.cell 1
  have m0 := HK12.out.m.cell 0
  have m1 := HK12.out.m.cell 1
  simp only [List.getElem?_toArray, List.getElem?_cons_zero, List.getElem?_cons_succ] at p0 p1 q0 q1 m0 m1
  have C8 := Lib.hid (psubset_ls (LS.one W12 1 4) (HK12.out.alloc (prObj 1 4)).l (ex_srt1 _) ex_srt2)
  rw [show subP [(1, 4)] [(0, 6), (1, 4)] = true by decide] at C8
  go_wp2_with fail
  refine C8.out.mono ?_
  rintro e W13 ⟨rfl, hb⟩
  have HK13 := Lib.hid ((HK12.out.alloc _).below hb)
  clear p0 p1 q0 q1 m0 m1 hb HK12 C8
  have p0 := HK13.out.p.cell 0
  have p1 := HK13.out.p.cell 1
  have q0 := HK13.out.q.cell 0
  have q1 := HK13.out.q.cell 1
  have m0 := HK13.out.m.cell 0
  have m1 := HK13.out.m.cell 1
  simp only [List.getElem?_toArray, List.getElem?_cons_zero, List.getElem?_cons_succ] at p0 p1 q0 q1 m0 m1
  have HKb := Lib.hid (HK13.out.alloc (prObj 1 4))
  have r0 := HKb.out.q.cell 0
  have r1 := HKb.out.q.cell 1
  have s0 := HKb.out.p.cell 0
  have s1 := HKb.out.p.cell 1
  simp only [List.getElem?_toArray, List.getElem?_cons_zero, List.getElem?_cons_succ] at r0 r1 s0 s1
  have C9 := Lib.hid (punion_ls ((LS.one W13 1 4).below ((Below.refl _ _).alloc (Nat.le_refl _) (.cells #[.int .i64 0, .int .i64 6, .int .i64 1, .int .i64 4] 25))) (LS.two (W13.alloc (prObj 1 4)) 0 6 1 4) (ex_srt1 _) ex_srt2 (by omega))
  rw [show mkP ([(1, 4)] ++ [(0, 6), (1, 4)]) = [(0, 6), (1, 4)] by decide, show (W13.alloc (prObj 1 4)).heap.size = W13.heap.size + 1 by simp] at C9
  go_wp2_with fail
  refine C9.out.mono ?_
  rintro e W14 ⟨A3, n3, c3, rfl, hP, hL⟩
  have HK14 := Lib.hid ((HKb.out.alloc _).below hP.blw)
  have C10 := Lib.hid (same_ls hL HK14.out.l)
  rw [show decide ([((0 : Int), (6 : Int)), (1, 4)] = [(0, 6), (1, 4)]) = true by decide] at C10
  clear p0 p1 q0 q1 m0 m1 r0 r1 s0 s1 HK13 HKb C9 hP hL
  go_wp2_with fail
  refine C10.out.mono ?_
  rintro e W15 ⟨rfl, hb⟩
  have HK15 := Lib.hid (HK14.out.grew hb)
  clear hb HK14 C10
  go_wp2
  go_ret
  exact ⟨rfl, HK15.out.blw⟩

end Go.Proofs.Ytgnlglmhcojaiaa
