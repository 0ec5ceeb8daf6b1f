/-
  The reference's Same of layer 16, of equal certificates.
-/
import Derived.Test.YtapdheabblgbaaaGreatSmSrc
import Derived.Test.YtapdheabblgbaaaGreatSmMac
import Derived.Test.YtapdheabblgbaaaGreatSmPp
import Derived.Test.YtapdheabblgbaaaGreatCkIn
namespace Go.Proofs.YtapdheabblgbaaaGreat
open Go.RowKit
set_option linter.unusedVariables false
set_option linter.unusedSimpArgs false

/-- Two certificates in blocks. -/
structure SmC2 (w : World) (A1 : Option Addr) (k1 : Nat) (A2 : Option Addr) (k2 : Nat) (A3 : Option Addr) (k3 : Nat) (B1 : Option Addr) (j1 : Nat) (B2 : Option Addr) (j2 : Nat) (B3 : Option Addr) (j3 : Nat) (c : Ct) (W : World) : Prop where
  blw : Below w.heap.size w W
  r1 : Row W w.heap.size 30 #[.int .i64 c.sa, .int .i64 c.sr, .slice A1 c.bs.length k1, .int .i64 c.ta, .int .i64 c.tr, .int .i64 c.ts, .slice A2 c.ms.length k2, .slice A3 c.inv.length k3]
  r2 : Row W (w.heap.size + 1) 30 #[.int .i64 c.sa, .int .i64 c.sr, .slice B1 c.bs.length j1, .int .i64 c.ta, .int .i64 c.tr, .int .i64 c.ts, .slice B2 c.ms.length j2, .slice B3 c.inv.length j3]
  s1 : CeAt W w.heap.size A1 k1 A2 k2 A3 k3 c
  s2 : CeAt W w.heap.size B1 j1 B2 j2 B3 j3 c
theorem SmC2.next {w W W' : World} {A1 : Option Addr} {k1 : Nat} {A2 : Option Addr} {k2 : Nat} {A3 : Option Addr} {k3 : Nat} {c : Ct} {B1 : Option Addr} {j1 : Nat} {B2 : Option Addr} {j2 : Nat} {B3 : Option Addr} {j3 : Nat} (h : SmC2 w A1 k1 A2 k2 A3 k3 B1 j1 B2 j2 B3 j3 c W) (hb : Below W.heap.size W W') : SmC2 w A1 k1 A2 k2 A3 k3 B1 j1 B2 j2 B3 j3 c W' :=
  ⟨h.blw.trans (hb.mono h.blw.size), h.r1.below hb h.r1.lt, h.r2.below hb h.r2.lt, h.s1.below (hb.mono h.blw.size), h.s2.below (hb.mono h.blw.size)⟩

set_option maxRecDepth 100000 in
set_option maxHeartbeats 16000000 in
theorem rsame16_any {A1 : Option Addr} {k1 : Nat} {A2 : Option Addr} {k2 : Nat} {A3 : Option Addr} {k3 : Nat} {c : Ct} {B1 : Option Addr} {j1 : Nat} {B2 : Option Addr} {j2 : Nat} {B3 : Option Addr} {j3 : Nat} (w : World) (h1 : CeAt w w.heap.size A1 k1 A2 k2 A3 k3 c) (h2 : CeAt w w.heap.size B1 j1 B2 j2 B3 j3 c) (hb : c.bs.length ≤ 1000) (hn : codeN c.bs ≤ 1000000) (hm : c.ms.length ≤ 1000) (hc : mcodeN c.ms ≤ 1000000) (hi : c.inv.length ≤ 1000) :
    Calls Tryz.prog 21 #[.agg #[.int .i64 c.sa, .int .i64 c.sr, .slice A1 c.bs.length k1, .int .i64 c.ta, .int .i64 c.tr, .int .i64 c.ts, .slice A2 c.ms.length k2, .slice A3 c.inv.length k3], .agg #[.int .i64 c.sa, .int .i64 c.sr, .slice B1 c.bs.length j1, .int .i64 c.ta, .int .i64 c.tr, .int .i64 c.ts, .slice B2 c.ms.length j2, .slice B3 c.inv.length j3]] w fun e w' => e = .returned (.bool true) ∧ Below w.heap.size w w' := by
  have HS0 : Hid (SmC2 w A1 k1 A2 k2 A3 k3 B1 j1 B2 j2 B3 j3 c ((w.alloc (.cells #[.int .i64 c.sa, .int .i64 c.sr, .slice A1 c.bs.length k1, .int .i64 c.ta, .int .i64 c.tr, .int .i64 c.ts, .slice A2 c.ms.length k2, .slice A3 c.inv.length k3] 30)).alloc (.cells #[.int .i64 c.sa, .int .i64 c.sr, .slice B1 c.bs.length j1, .int .i64 c.ta, .int .i64 c.tr, .int .i64 c.ts, .slice B2 c.ms.length j2, .slice B3 c.inv.length j3] 30))) := by
    have hb1 := (Below.refl w.heap.size w).alloc (Nat.le_refl _) (.cells #[.int .i64 c.sa, .int .i64 c.sr, .slice A1 c.bs.length k1, .int .i64 c.ta, .int .i64 c.tr, .int .i64 c.ts, .slice A2 c.ms.length k2, .slice A3 c.inv.length k3] 30)
    have hb2 := (hb1.alloc hb1.size (.cells #[.int .i64 c.sa, .int .i64 c.sr, .slice B1 c.bs.length j1, .int .i64 c.ta, .int .i64 c.tr, .int .i64 c.ts, .slice B2 c.ms.length j2, .slice B3 c.inv.length j3] 30))
    have q1 := (Row.new w 30 #[.int .i64 c.sa, .int .i64 c.sr, .slice A1 c.bs.length k1, .int .i64 c.ta, .int .i64 c.tr, .int .i64 c.ts, .slice A2 c.ms.length k2, .slice A3 c.inv.length k3]).alloc (.cells #[.int .i64 c.sa, .int .i64 c.sr, .slice B1 c.bs.length j1, .int .i64 c.ta, .int .i64 c.tr, .int .i64 c.ts, .slice B2 c.ms.length j2, .slice B3 c.inv.length j3] 30)
    have q2 := Row.new (w.alloc (.cells #[.int .i64 c.sa, .int .i64 c.sr, .slice A1 c.bs.length k1, .int .i64 c.ta, .int .i64 c.tr, .int .i64 c.ts, .slice A2 c.ms.length k2, .slice A3 c.inv.length k3] 30)) 30 #[.int .i64 c.sa, .int .i64 c.sr, .slice B1 c.bs.length j1, .int .i64 c.ta, .int .i64 c.tr, .int .i64 c.ts, .slice B2 c.ms.length j2, .slice B3 c.inv.length j3]
    simp only [World.size_alloc] at q2
    exact ⟨hb2, q1, q2, h1.below hb2, h2.below hb2⟩
  clear h1 h2
  go_enter Tryz.func21, Tryz.ntmps21
  go_upto_region 1 with fail
  generalize ((w.alloc (.cells #[.int .i64 c.sa, .int .i64 c.sr, .slice A1 c.bs.length k1, .int .i64 c.ta, .int .i64 c.tr, .int .i64 c.ts, .slice A2 c.ms.length k2, .slice A3 c.inv.length k3] 30)).alloc (.cells #[.int .i64 c.sa, .int .i64 c.sr, .slice B1 c.bs.length j1, .int .i64 c.ta, .int .i64 c.tr, .int .i64 c.ts, .slice B2 c.ms.length j2, .slice B3 c.inv.length j3] 30)) = W0 at *
  have c0 := HS0.out.r1.cell 0; have c1 := HS0.out.r1.cell 1; have c2 := HS0.out.r1.cell 2; have c3 := HS0.out.r1.cell 3
  have c4 := HS0.out.r1.cell 4; have c5 := HS0.out.r1.cell 5; have c6 := HS0.out.r1.cell 6; have c7 := HS0.out.r1.cell 7
  have d0 := HS0.out.r2.cell 0; have d1 := HS0.out.r2.cell 1; have d2 := HS0.out.r2.cell 2; have d3 := HS0.out.r2.cell 3
  have d4 := HS0.out.r2.cell 4; have d5 := HS0.out.r2.cell 5; have d6 := HS0.out.r2.cell 6; have d7 := HS0.out.r2.cell 7
  simp only [List.getElem?_toArray, List.getElem?_cons_zero, List.getElem?_cons_succ] at c0 c1 c2 c3 c4 c5 c6 c7 d0 d1 d2 d3 d4 d5 d6 d7
  have C1 := Lib.hid (rsame7_any _ A1 B1 c.bs k1 j1 c.sa c.sr W0 HS0.out.s1.bs HS0.out.s2.bs HS0.out.blw.size hb hn)
  go_wp2_with fail
  refine C1.out.mono ?_
  rintro e W1 ⟨rfl, hb1⟩
  have HS1 := Lib.hid (HS0.out.next hb1)
  clear c0 c1 c2 c3 c4 c5 c6 c7 d0 d1 d2 d3 d4 d5 d6 d7
  clear hb1 HS0 C1
  have c0 := HS1.out.r1.cell 0; have c1 := HS1.out.r1.cell 1; have c2 := HS1.out.r1.cell 2; have c3 := HS1.out.r1.cell 3
  have c4 := HS1.out.r1.cell 4; have c5 := HS1.out.r1.cell 5; have c6 := HS1.out.r1.cell 6; have c7 := HS1.out.r1.cell 7
  have d0 := HS1.out.r2.cell 0; have d1 := HS1.out.r2.cell 1; have d2 := HS1.out.r2.cell 2; have d3 := HS1.out.r2.cell 3
  have d4 := HS1.out.r2.cell 4; have d5 := HS1.out.r2.cell 5; have d6 := HS1.out.r2.cell 6; have d7 := HS1.out.r2.cell 7
  simp only [List.getElem?_toArray, List.getElem?_cons_zero, List.getElem?_cons_succ] at c0 c1 c2 c3 c4 c5 c6 c7 d0 d1 d2 d3 d4 d5 d6 d7
  have C2 := Lib.hid (rsame8_any _ A2 B2 c.ms k2 j2 c.ta c.tr c.ts W1 HS1.out.s1.ms HS1.out.s2.ms HS1.out.blw.size hm hc)
  go_wp2_with fail
  refine C2.out.mono ?_
  rintro e W2 ⟨rfl, hb2⟩
  have HS2 := Lib.hid (HS1.out.next hb2)
  clear c0 c1 c2 c3 c4 c5 c6 c7 d0 d1 d2 d3 d4 d5 d6 d7
  clear hb2 HS1 C2
  have c0 := HS2.out.r1.cell 0; have c1 := HS2.out.r1.cell 1; have c2 := HS2.out.r1.cell 2; have c3 := HS2.out.r1.cell 3
  have c4 := HS2.out.r1.cell 4; have c5 := HS2.out.r1.cell 5; have c6 := HS2.out.r1.cell 6; have c7 := HS2.out.r1.cell 7
  have d0 := HS2.out.r2.cell 0; have d1 := HS2.out.r2.cell 1; have d2 := HS2.out.r2.cell 2; have d3 := HS2.out.r2.cell 3
  have d4 := HS2.out.r2.cell 4; have d5 := HS2.out.r2.cell 5; have d6 := HS2.out.r2.cell 6; have d7 := HS2.out.r2.cell 7
  simp only [List.getElem?_toArray, List.getElem?_cons_zero, List.getElem?_cons_succ] at c0 c1 c2 c3 c4 c5 c6 c7 d0 d1 d2 d3 d4 d5 d6 d7
  have C3 := Lib.hid (rsame15_any _ A3 B3 c.inv k3 j3 W2 HS2.out.s1.inv HS2.out.s2.inv HS2.out.blw.size hi)
  go_wp2_with fail
  refine C3.out.mono ?_
  rintro e W3 ⟨rfl, hb3⟩
  have HS3 := Lib.hid (HS2.out.next hb3.below)
  clear c0 c1 c2 c3 c4 c5 c6 c7 d0 d1 d2 d3 d4 d5 d6 d7
  clear hb3 HS2 C3
  go_wp2
  go_ret
  exact ⟨rfl, HS3.out.blw⟩

end Go.Proofs.YtapdheabblgbaaaGreat
