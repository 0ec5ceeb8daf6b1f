/-
  The walk of the statement that certificates are kept.
-/
import Derived.Test.YtapdheabblgbaaaGreatCkAwk
import Derived.Test.YtapdheabblgbaaaGreatCkOwn
import Derived.Test.YtapdheabblgbaaaGreatSmCk
namespace Go.Proofs.YtapdheabblgbaaaGreat
open Go.RowKit
set_option linter.unusedVariables false
set_option linter.unusedSimpArgs false

/-- What the walk carries: the certificate, its copy. -/
structure CK2 (w : World) (ob : Nat) (A1 : Option Addr) (k1 : Nat) (A2 : Option Addr) (k2 : Nat) (A3 : Option Addr) (k3 : Nat) (Av1 : Option Addr) (cv1 : Nat) (Av2 : Option Addr) (cv2 : Nat) (Av3 : Option Addr) (cv3 : Nat) (c : Ct) (W : World) : Prop where
  k : CeK w w.heap.size A1 k1 A2 k2 A3 k3 c W
  ow : ∃ B, B ≤ W.heap.size ∧ CeAt W B Av1 cv1 Av2 cv2 Av3 cv3 c
  row : Row W ob 30 #[.int .i64 c.sa, .int .i64 c.sr, .slice Av1 c.bs.length cv1, .int .i64 c.ta, .int .i64 c.tr, .int .i64 c.ts, .slice Av2 c.ms.length cv2, .slice Av3 c.inv.length cv3]
theorem CK2.next {w W W' : World} {ob : Nat} {A1 : Option Addr} {k1 : Nat} {A2 : Option Addr} {k2 : Nat} {A3 : Option Addr} {k3 : Nat} {c : Ct}{Av1 : Option Addr} {cv1 : Nat} {Av2 : Option Addr} {cv2 : Nat} {Av3 : Option Addr} {cv3 : Nat} (h : CK2 w ob A1 k1 A2 k2 A3 k3 Av1 cv1 Av2 cv2 Av3 cv3 c W) (hb : Below W.heap.size W W') : CK2 w ob A1 k1 A2 k2 A3 k3 Av1 cv1 Av2 cv2 Av3 cv3 c W' := by
  obtain ⟨B, hB, hc⟩ := h.ow
  exact ⟨h.k.next hb, ⟨B, Nat.le_trans hB hb.size, hc.below (hb.mono hB)⟩, h.row.below hb h.row.lt⟩

set_option maxRecDepth 100000 in
set_option maxHeartbeats 16000000 in
theorem CheckerKeeps_walk (a0 : Array Value) (w : World) (w0 : IsCert w a0) :
    Calls Tryz.prog 8 #[.agg a0] w fun e w' => e = .returned (.bool true) ∧ Below w.heap.size w w' := by
  have mixed : Tryz.prog.follows .mixedOrders = true := by kernel_rfl
  obtain ⟨c, A1, k1, A2, k2, A3, k3, rfl, hce, hwf⟩ := w0
  have AW : Hid (∀ W, Calls Tryz.prog 9 #[] W fun e w' => e = .returned (.bool true) ∧ Below W.heap.size W w') := fun W => ckawake_any W
  have HK := Lib.hid (CeK.start hce)
  have HWF := Lib.hid hwf
  have hm1 : c.bs.length ≤ 9223372036854775807 := by have := hce.l1; unfold maxLen at this; omega
  clear hce hwf
  go_enter Tryz.func8, Tryz.ntmps8
  go_upto_region 1 with fail
  have hz0 : w.heap.size < (w.alloc (.cells #[.int .i64 c.sa, .int .i64 c.sr, .slice A1 c.bs.length k1, .int .i64 c.ta, .int .i64 c.tr, .int .i64 c.ts, .slice A2 c.ms.length k2, .slice A3 c.inv.length k3] 30)).heap.size := by simp
  generalize (w.alloc (.cells #[.int .i64 c.sa, .int .i64 c.sr, .slice A1 c.bs.length k1, .int .i64 c.ta, .int .i64 c.tr, .int .i64 c.ts, .slice A2 c.ms.length k2, .slice A3 c.inv.length k3] 30)) = W0 at *
  go_wp2_with fail
  refine (AW.out _).mono ?_
  rintro e W1 ⟨rfl, hb⟩
  have HK1 := Lib.hid (HK.out.next hb)
  clear hb HK hz0
  have c0 := HK1.out.row.cell 0; have c1 := HK1.out.row.cell 1; have c2 := HK1.out.row.cell 2; have c3 := HK1.out.row.cell 3
  have c4 := HK1.out.row.cell 4; have c5 := HK1.out.row.cell 5; have c6 := HK1.out.row.cell 6; have c7 := HK1.out.row.cell 7
  simp only [List.getElem?_toArray, List.getElem?_cons_zero, List.getElem?_cons_succ] at c0 c1 c2 c3 c4 c5 c6 c7
  go_wp2_with fail
  refine (rckfew_any W1 (HK1.out.see.more HK1.out.blw.size)).mono ?_
  rintro e W2 ⟨⟨b, rfl, hF⟩, hb⟩
  have HK2 := Lib.hid (HK1.out.next hb)
  clear hb HK1
  clear c0 c1 c2 c3 c4 c5 c6 c7
  cases b
  · go_wp2_with fail
    refine (AW.out _).mono ?_
    rintro e W9 ⟨rfl, hb⟩
    have HZ := Lib.hid (HK2.out.next hb)
    clear hb HK2
    go_wp2
    go_ret
    exact ⟨rfl, HZ.out.blw⟩
  · have HSM := Lib.hid (hF rfl)
    clear hF
    have c0 := HK2.out.row.cell 0; have c1 := HK2.out.row.cell 1; have c2 := HK2.out.row.cell 2; have c3 := HK2.out.row.cell 3
    have c4 := HK2.out.row.cell 4; have c5 := HK2.out.row.cell 5; have c6 := HK2.out.row.cell 6; have c7 := HK2.out.row.cell 7
    simp only [List.getElem?_toArray, List.getElem?_cons_zero, List.getElem?_cons_succ] at c0 c1 c2 c3 c4 c5 c6 c7
    go_wp2_with fail
    refine (rckcopy_any W2 (HK2.out.see.more HK2.out.blw.size) HSM.out).mono ?_
    rintro e W3 ⟨Av1, cv1, vs1, Av2, cv2, vs2, Av3, cv3, vs3, rfl, hn1, hn2, hn3, hb⟩
    clear c0 c1 c2 c3 c4 c5 c6 c7
    have hce : CeAt W3 W3.heap.size Av1 cv1 Av2 cv2 Av3 cv3 c := ceAt_own hn1 hn2 hn3 (mblks_fit HK2.out.see.ms)
    have HK3 := Lib.hid (HK2.out.next hb)
    have HCE := Lib.hid hce
    clear hb HK2 hn1 hn2 hn3 hce
    have c0 := HK3.out.row.cell 0; have c1 := HK3.out.row.cell 1; have c2 := HK3.out.row.cell 2; have c3 := HK3.out.row.cell 3
    have c4 := HK3.out.row.cell 4; have c5 := HK3.out.row.cell 5; have c6 := HK3.out.row.cell 6; have c7 := HK3.out.row.cell 7
    simp only [List.getElem?_toArray, List.getElem?_cons_zero, List.getElem?_cons_succ] at c0 c1 c2 c3 c4 c5 c6 c7
    go_upto_region 4 with fail
    clear c0 c1 c2 c3 c4 c5 c6 c7
    have HC3 : Hid (CK2 w W3.heap.size A1 k1 A2 k2 A3 k3 Av1 cv1 Av2 cv2 Av3 cv3 c (W3.alloc (.cells #[.int .i64 c.sa, .int .i64 c.sr, .slice Av1 c.bs.length cv1, .int .i64 c.ta, .int .i64 c.tr, .int .i64 c.ts, .slice Av2 c.ms.length cv2, .slice Av3 c.inv.length cv3] 30))) := ⟨HK3.out.alloc _, ⟨W3.heap.size, by simp, HCE.out.below ((Below.refl _ _).alloc (Nat.le_refl _) _)⟩, Row.new W3 _ _⟩
    clear HK3 HCE
    generalize (W3.alloc (.cells #[.int .i64 c.sa, .int .i64 c.sr, .slice Av1 c.bs.length cv1, .int .i64 c.ta, .int .i64 c.tr, .int .i64 c.ts, .slice Av2 c.ms.length cv2, .slice Av3 c.inv.length cv3] 30)) = W4 at *
    generalize W3.heap.size = ob at *
    have f0 := HC3.out.row.cell 0; have f1 := HC3.out.row.cell 1; have f2 := HC3.out.row.cell 2; have f3 := HC3.out.row.cell 3
    have f4 := HC3.out.row.cell 4; have f5 := HC3.out.row.cell 5; have f6 := HC3.out.row.cell 6; have f7 := HC3.out.row.cell 7
    simp only [List.getElem?_toArray, List.getElem?_cons_zero, List.getElem?_cons_succ] at f0 f1 f2 f3 f4 f5 f6 f7
    have C1 := Lib.hid (pckcheck_any W4 (by obtain ⟨B, hB, hc⟩ := HC3.out.ow; exact hc.more hB) HSM.out HWF.out)
    go_wp2_with fail
    refine C1.out.mono ?_
    rintro e W5 ⟨rfl, hb⟩
    have HC4 := Lib.hid (HC3.out.next hb)
    clear f0 f1 f2 f3 f4 f5 f6 f7
    clear hb HC3 C1
    have f0 := HC4.out.row.cell 0; have f1 := HC4.out.row.cell 1; have f2 := HC4.out.row.cell 2; have f3 := HC4.out.row.cell 3
    have f4 := HC4.out.row.cell 4; have f5 := HC4.out.row.cell 5; have f6 := HC4.out.row.cell 6; have f7 := HC4.out.row.cell 7
    simp only [List.getElem?_toArray, List.getElem?_cons_zero, List.getElem?_cons_succ] at f0 f1 f2 f3 f4 f5 f6 f7
    have C2 := Lib.hid (pckvalid_any W5 (by obtain ⟨B, hB, hc⟩ := HC4.out.ow; exact hc.more hB) HSM.out HWF.out)
    go_wp2_with fail
    refine C2.out.mono ?_
    rintro e W6 ⟨rfl, hb⟩
    have HC5 := Lib.hid (HC4.out.next hb)
    clear f0 f1 f2 f3 f4 f5 f6 f7
    clear hb HC4 C2
    have f0 := HC5.out.row.cell 0; have f1 := HC5.out.row.cell 1; have f2 := HC5.out.row.cell 2; have f3 := HC5.out.row.cell 3
    have f4 := HC5.out.row.cell 4; have f5 := HC5.out.row.cell 5; have f6 := HC5.out.row.cell 6; have f7 := HC5.out.row.cell 7
    simp only [List.getElem?_toArray, List.getElem?_cons_zero, List.getElem?_cons_succ] at f0 f1 f2 f3 f4 f5 f6 f7
    have HK5 := Lib.hid HC5.out.k
    have c0 := HK5.out.row.cell 0; have c1 := HK5.out.row.cell 1; have c2 := HK5.out.row.cell 2; have c3 := HK5.out.row.cell 3
    have c4 := HK5.out.row.cell 4; have c5 := HK5.out.row.cell 5; have c6 := HK5.out.row.cell 6; have c7 := HK5.out.row.cell 7
    simp only [List.getElem?_toArray, List.getElem?_cons_zero, List.getElem?_cons_succ] at c0 c1 c2 c3 c4 c5 c6 c7
    obtain ⟨⟨s1, s2, s3⟩, ⟨s4, s5, s6, s7⟩, s8, s9⟩ := HSM.out
    have C3 := Lib.hid (rsame16_any W6 (by obtain ⟨B, hB, hc⟩ := HC5.out.ow; exact hc.more hB) (HK5.out.see.more HK5.out.blw.size) (by omega) (by omega) (by omega) (by omega) (by omega))
    clear s1 s2 s3 s4 s5 s6 s7 s8 s9
    go_wp2_with fail
    refine C3.out.mono ?_
    rintro e W7 ⟨rfl, hb⟩
    have HC6 := Lib.hid (HC5.out.next hb)
    clear f0 f1 f2 f3 f4 f5 f6 f7
    clear c0 c1 c2 c3 c4 c5 c6 c7
    clear hb HC5 HK5 C3
    go_wp2
    go_ret
    exact ⟨rfl, HC6.out.k.blw⟩

end Go.Proofs.YtapdheabblgbaaaGreat
