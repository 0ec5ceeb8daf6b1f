/-
  The reference's Same of layer 16, of any two certificates.
-/
import Derived.Test.YtcoehkphdfejjaaSmSrd
import Derived.Test.YtcoehkphdfejjaaSmMad
import Derived.Test.YtcoehkphdfejjaaSmPq
import Derived.Test.YtcoehkphdfejjaaCkIn
namespace Go.Proofs.Ytcoehkphdfejjaa
open Go.RowKit
set_option linter.unusedVariables false
set_option linter.unusedSimpArgs false

/-- Two certificates in blocks. -/
structure SmC3 (w : World) (A1 : Option Addr) (k1 : Nat) (A2 : Option Addr) (k2 : Nat) (A3 : Option Addr) (k3 : Nat) (B1 : Option Addr) (j1 : Nat) (B2 : Option Addr) (j2 : Nat) (B3 : Option Addr) (j3 : Nat) (c d : Ct) (W : World) : Prop where
  blw : Below w.heap.size w W
  r1 : Row W w.heap.size 32 #[.int .i64 c.sa, .int .i64 c.sr, .slice A1 c.bs.length k1, .int .i64 c.ta, .int .i64 c.tr, .int .i64 c.ts, .slice A2 c.ms.length k2, .slice A3 c.inv.length k3]
  r2 : Row W (w.heap.size + 1) 32 #[.int .i64 d.sa, .int .i64 d.sr, .slice B1 d.bs.length j1, .int .i64 d.ta, .int .i64 d.tr, .int .i64 d.ts, .slice B2 d.ms.length j2, .slice B3 d.inv.length j3]
  s1 : CeAt W w.heap.size A1 k1 A2 k2 A3 k3 c
  s2 : CeAt W w.heap.size B1 j1 B2 j2 B3 j3 d

theorem SmC3.next {w W W' : World} {A1 : Option Addr} {k1 : Nat} {A2 : Option Addr} {k2 : Nat} {A3 : Option Addr} {k3 : Nat} {c d : Ct} {B1 : Option Addr} {j1 : Nat} {B2 : Option Addr} {j2 : Nat} {B3 : Option Addr} {j3 : Nat} (h : SmC3 w A1 k1 A2 k2 A3 k3 B1 j1 B2 j2 B3 j3 c d W) (hb : Below W.heap.size W W') : SmC3 w A1 k1 A2 k2 A3 k3 B1 j1 B2 j2 B3 j3 c d W' :=
  ⟨h.blw.trans (hb.mono h.blw.size), h.r1.below hb h.r1.lt, h.r2.below hb h.r2.lt, h.s1.below (hb.mono h.blw.size), h.s2.below (hb.mono h.blw.size)⟩

set_option maxRecDepth 100000 in
set_option maxHeartbeats 16000000 in
theorem rsame16_all {A1 : Option Addr} {k1 : Nat} {A2 : Option Addr} {k2 : Nat} {A3 : Option Addr} {k3 : Nat} {c d : Ct} {B1 : Option Addr} {j1 : Nat} {B2 : Option Addr} {j2 : Nat} {B3 : Option Addr} {j3 : Nat} (w : World) (h1 : CeAt w w.heap.size A1 k1 A2 k2 A3 k3 c) (h2 : CeAt w w.heap.size B1 j1 B2 j2 B3 j3 d) (hb : c.bs.length ≤ 1000000 ∧ d.bs.length ≤ 1000000) (hn : codeN c.bs ≤ 1000000 ∧ codeN d.bs ≤ 1000000) (hm : c.ms.length ≤ 1000000 ∧ d.ms.length ≤ 1000000) (hc : mcodeN c.ms ≤ 1000000 ∧ mcodeN d.ms ≤ 1000000) (hi : c.inv.length ≤ 1000000 ∧ d.inv.length ≤ 1000000) (bb : Bool) (hbb : bb = true ↔ c = d) :
    Calls Try.prog 10 #[.agg #[.int .i64 c.sa, .int .i64 c.sr, .slice A1 c.bs.length k1, .int .i64 c.ta, .int .i64 c.tr, .int .i64 c.ts, .slice A2 c.ms.length k2, .slice A3 c.inv.length k3], .agg #[.int .i64 d.sa, .int .i64 d.sr, .slice B1 d.bs.length j1, .int .i64 d.ta, .int .i64 d.tr, .int .i64 d.ts, .slice B2 d.ms.length j2, .slice B3 d.inv.length j3]] w fun e w' => e = .returned (.bool bb) ∧ Below w.heap.size w w' := by
  have yes : ∀ P : Prop, ∃ b : Bool, b = true ↔ P := fun P => by by_cases h : P; exact ⟨true, by simp [h]⟩; exact ⟨false, by simp [h]⟩
  obtain ⟨b1, h1b⟩ := yes (c.sa = d.sa ∧ c.sr = d.sr ∧ c.bs = d.bs)
  obtain ⟨b2, h2b⟩ := yes (c.ta = d.ta ∧ c.tr = d.tr ∧ c.ts = d.ts ∧ c.ms = d.ms)
  obtain ⟨b3, h3b⟩ : ∃ b, b = decide (c.inv = d.inv) := ⟨_, rfl⟩
  have HB : Hid (bb = (b1 && b2 && b3)) := by
    show _ = _
    rw [Bool.eq_iff_iff, hbb, Bool.and_eq_true, Bool.and_eq_true, h1b, h2b, h3b, decide_eq_true_iff]
    constructor
    · rintro rfl; exact ⟨⟨⟨rfl, rfl, rfl⟩, rfl, rfl, rfl, rfl⟩, rfl⟩
    · rintro ⟨⟨⟨e1, e2, e3⟩, e4, e5, e6, e7⟩, e8⟩
      cases c; cases d; simp_all
  have H1B := Lib.hid h1b; have H2B := Lib.hid h2b; have H3B := Lib.hid h3b
  clear hbb yes h1b h2b h3b
  have HS0 : Hid (SmC3 w A1 k1 A2 k2 A3 k3 B1 j1 B2 j2 B3 j3 c d ((w.alloc (.cells #[.int .i64 c.sa, .int .i64 c.sr, .slice A1 c.bs.length k1, .int .i64 c.ta, .int .i64 c.tr, .int .i64 c.ts, .slice A2 c.ms.length k2, .slice A3 c.inv.length k3] 32)).alloc (.cells #[.int .i64 d.sa, .int .i64 d.sr, .slice B1 d.bs.length j1, .int .i64 d.ta, .int .i64 d.tr, .int .i64 d.ts, .slice B2 d.ms.length j2, .slice B3 d.inv.length j3] 32))) := by
    have hb1 := (Below.refl w.heap.size w).alloc (Nat.le_refl _) (.cells #[.int .i64 c.sa, .int .i64 c.sr, .slice A1 c.bs.length k1, .int .i64 c.ta, .int .i64 c.tr, .int .i64 c.ts, .slice A2 c.ms.length k2, .slice A3 c.inv.length k3] 32)
    have hb2 := (hb1.alloc hb1.size (.cells #[.int .i64 d.sa, .int .i64 d.sr, .slice B1 d.bs.length j1, .int .i64 d.ta, .int .i64 d.tr, .int .i64 d.ts, .slice B2 d.ms.length j2, .slice B3 d.inv.length j3] 32))
    have q1 := (Row.new w 32 #[.int .i64 c.sa, .int .i64 c.sr, .slice A1 c.bs.length k1, .int .i64 c.ta, .int .i64 c.tr, .int .i64 c.ts, .slice A2 c.ms.length k2, .slice A3 c.inv.length k3]).alloc (.cells #[.int .i64 d.sa, .int .i64 d.sr, .slice B1 d.bs.length j1, .int .i64 d.ta, .int .i64 d.tr, .int .i64 d.ts, .slice B2 d.ms.length j2, .slice B3 d.inv.length j3] 32)
    have q2 := Row.new (w.alloc (.cells #[.int .i64 c.sa, .int .i64 c.sr, .slice A1 c.bs.length k1, .int .i64 c.ta, .int .i64 c.tr, .int .i64 c.ts, .slice A2 c.ms.length k2, .slice A3 c.inv.length k3] 32)) 32 #[.int .i64 d.sa, .int .i64 d.sr, .slice B1 d.bs.length j1, .int .i64 d.ta, .int .i64 d.tr, .int .i64 d.ts, .slice B2 d.ms.length j2, .slice B3 d.inv.length j3]
    simp only [World.size_alloc] at q2
    exact ⟨hb2, q1, q2, h1.below hb2, h2.below hb2⟩
  clear h1 h2
  go_enter Try.func10, Try.ntmps10
  go_upto_region 1 with fail
  generalize ((w.alloc (.cells #[.int .i64 c.sa, .int .i64 c.sr, .slice A1 c.bs.length k1, .int .i64 c.ta, .int .i64 c.tr, .int .i64 c.ts, .slice A2 c.ms.length k2, .slice A3 c.inv.length k3] 32)).alloc (.cells #[.int .i64 d.sa, .int .i64 d.sr, .slice B1 d.bs.length j1, .int .i64 d.ta, .int .i64 d.tr, .int .i64 d.ts, .slice B2 d.ms.length j2, .slice B3 d.inv.length j3] 32)) = W0 at *
  have c0 := HS0.out.r1.cell 0; have c1 := HS0.out.r1.cell 1; have c2 := HS0.out.r1.cell 2; have c3 := HS0.out.r1.cell 3
  have c4 := HS0.out.r1.cell 4; have c5 := HS0.out.r1.cell 5; have c6 := HS0.out.r1.cell 6; have c7 := HS0.out.r1.cell 7
  have d0 := HS0.out.r2.cell 0; have d1 := HS0.out.r2.cell 1; have d2 := HS0.out.r2.cell 2; have d3 := HS0.out.r2.cell 3
  have d4 := HS0.out.r2.cell 4; have d5 := HS0.out.r2.cell 5; have d6 := HS0.out.r2.cell 6; have d7 := HS0.out.r2.cell 7
  simp only [List.getElem?_toArray, List.getElem?_cons_zero, List.getElem?_cons_succ] at c0 c1 c2 c3 c4 c5 c6 c7 d0 d1 d2 d3 d4 d5 d6 d7
  have C1 := Lib.hid (rsame7_all _ A1 B1 c.bs d.bs k1 j1 c.sa c.sr d.sa d.sr W0 HS0.out.s1.bs HS0.out.s2.bs HS0.out.blw.size hb.1 hb.2 hn.1 hn.2 b1 H1B.out)
  go_wp2_with fail
  refine C1.out.mono ?_
  rintro e W1 ⟨rfl, hb1⟩
  have HS1 := Lib.hid (HS0.out.next hb1)
  clear c0 c1 c2 c3 c4 c5 c6 c7 d0 d1 d2 d3 d4 d5 d6 d7
  clear hb1 HS0 C1
  cases b1
  · have HE : Hid (bb = false) := HB.out
    clear HB H1B
    go_wp2
    go_ret
    exact ⟨by rw [HE.out]; rfl, HS1.out.blw⟩
  have c0 := HS1.out.r1.cell 0; have c1 := HS1.out.r1.cell 1; have c2 := HS1.out.r1.cell 2; have c3 := HS1.out.r1.cell 3
  have c4 := HS1.out.r1.cell 4; have c5 := HS1.out.r1.cell 5; have c6 := HS1.out.r1.cell 6; have c7 := HS1.out.r1.cell 7
  have d0 := HS1.out.r2.cell 0; have d1 := HS1.out.r2.cell 1; have d2 := HS1.out.r2.cell 2; have d3 := HS1.out.r2.cell 3
  have d4 := HS1.out.r2.cell 4; have d5 := HS1.out.r2.cell 5; have d6 := HS1.out.r2.cell 6; have d7 := HS1.out.r2.cell 7
  simp only [List.getElem?_toArray, List.getElem?_cons_zero, List.getElem?_cons_succ] at c0 c1 c2 c3 c4 c5 c6 c7 d0 d1 d2 d3 d4 d5 d6 d7
  have C2 := Lib.hid (rsame8_all _ A2 B2 c.ms d.ms k2 j2 c.ta c.tr c.ts d.ta d.tr d.ts W1 HS1.out.s1.ms HS1.out.s2.ms HS1.out.blw.size hm.1 hm.2 hc.1 hc.2 b2 H2B.out)
  go_wp2_with fail
  refine C2.out.mono ?_
  rintro e W2 ⟨rfl, hb2⟩
  have HS2 := Lib.hid (HS1.out.next hb2)
  clear c0 c1 c2 c3 c4 c5 c6 c7 d0 d1 d2 d3 d4 d5 d6 d7
  clear hb2 HS1 C2
  cases b2
  · have HE : Hid (bb = false) := HB.out
    clear HB H2B
    go_wp2
    go_ret
    exact ⟨by rw [HE.out]; rfl, HS2.out.blw⟩
  have c0 := HS2.out.r1.cell 0; have c1 := HS2.out.r1.cell 1; have c2 := HS2.out.r1.cell 2; have c3 := HS2.out.r1.cell 3
  have c4 := HS2.out.r1.cell 4; have c5 := HS2.out.r1.cell 5; have c6 := HS2.out.r1.cell 6; have c7 := HS2.out.r1.cell 7
  have d0 := HS2.out.r2.cell 0; have d1 := HS2.out.r2.cell 1; have d2 := HS2.out.r2.cell 2; have d3 := HS2.out.r2.cell 3
  have d4 := HS2.out.r2.cell 4; have d5 := HS2.out.r2.cell 5; have d6 := HS2.out.r2.cell 6; have d7 := HS2.out.r2.cell 7
  simp only [List.getElem?_toArray, List.getElem?_cons_zero, List.getElem?_cons_succ] at c0 c1 c2 c3 c4 c5 c6 c7 d0 d1 d2 d3 d4 d5 d6 d7
  have C3 := Lib.hid (rsame15_all _ A3 B3 c.inv d.inv k3 j3 W2 HS2.out.s1.inv HS2.out.s2.inv HS2.out.blw.size hi.1 hi.2)
  rw [← H3B.out] at C3
  go_wp2_with fail
  refine C3.out.mono ?_
  rintro e W3 ⟨rfl, hb3⟩
  have HS3 := Lib.hid (HS2.out.next hb3.below)
  clear c0 c1 c2 c3 c4 c5 c6 c7 d0 d1 d2 d3 d4 d5 d6 d7
  clear hb3 HS2 C3
  have HE : Hid (bb = b3) := HB.out
  clear HB H3B
  go_wp2
  go_ret
  exact ⟨by rw [HE.out]; rfl, HS3.out.blw⟩

end Go.Proofs.Ytcoehkphdfejjaa
