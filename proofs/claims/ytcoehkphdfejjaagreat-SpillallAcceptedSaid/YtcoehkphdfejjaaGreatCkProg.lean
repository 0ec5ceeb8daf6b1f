/-
  The program's Check (the region that lays the visitor is written by wip/lab/genckprog.py).
-/
import Derived.Test.YtcoehkphdfejjaaGreatCkPv
import Derived.Test.YtcoehkphdfejjaaGreatCkVb
import Derived.Test.YtcoehkphdfejjaaGreatCkVe
import Derived.Test.YtcoehkphdfejjaaGreatCkLp
import Derived.Test.YtcoehkphdfejjaaGreatSucOwn
import Derived.Test.YtcoehkphdfejjaaGreatPk1
import Derived.Deep.Cut
import Derived.Deep.CutRange
import Derived.BigRegion
namespace Go.Proofs.YtcoehkphdfejjaaGreat
open Go.RowKit
set_option linter.unusedVariables false
set_option linter.unusedSimpArgs false

theorem Row.put15 {W : World} {p : Nat} {T : TypeId} {z0 z1 z2 z3 z4 z5 z6 z7 z8 z9 z10 z11 z12 z13 z14 : Value} (h : Row W p T #[z0, z1, z2, z3, z4, z5, z6, z7, z8, z9, z10, z11, z12, z13, z14]) (a0 a1 a2 a3 a4 a5 a6 a7 a8 a9 a10 a11 a12 a13 a14 : Value) :
    Row (((((((((((((((W.setCell ⟨p, 0, none⟩ a0).setCell ⟨p, 1, none⟩ a1).setCell ⟨p, 2, none⟩ a2).setCell ⟨p, 3, none⟩ a3).setCell ⟨p, 4, none⟩ a4).setCell ⟨p, 5, none⟩ a5).setCell ⟨p, 6, none⟩ a6).setCell ⟨p, 7, none⟩ a7).setCell ⟨p, 8, none⟩ a8).setCell ⟨p, 9, none⟩ a9).setCell ⟨p, 10, none⟩ a10).setCell ⟨p, 11, none⟩ a11).setCell ⟨p, 12, none⟩ a12).setCell ⟨p, 13, none⟩ a13).setCell ⟨p, 14, none⟩ a14) p T #[a0, a1, a2, a3, a4, a5, a6, a7, a8, a9, a10, a11, a12, a13, a14] := by
  have q0 : Row _ p T #[a0, z1, z2, z3, z4, z5, z6, z7, z8, z9, z10, z11, z12, z13, z14] := h.put 0 a0
  have q1 : Row _ p T #[a0, a1, z2, z3, z4, z5, z6, z7, z8, z9, z10, z11, z12, z13, z14] := q0.put 1 a1
  have q2 : Row _ p T #[a0, a1, a2, z3, z4, z5, z6, z7, z8, z9, z10, z11, z12, z13, z14] := q1.put 2 a2
  have q3 : Row _ p T #[a0, a1, a2, a3, z4, z5, z6, z7, z8, z9, z10, z11, z12, z13, z14] := q2.put 3 a3
  have q4 : Row _ p T #[a0, a1, a2, a3, a4, z5, z6, z7, z8, z9, z10, z11, z12, z13, z14] := q3.put 4 a4
  have q5 : Row _ p T #[a0, a1, a2, a3, a4, a5, z6, z7, z8, z9, z10, z11, z12, z13, z14] := q4.put 5 a5
  have q6 : Row _ p T #[a0, a1, a2, a3, a4, a5, a6, z7, z8, z9, z10, z11, z12, z13, z14] := q5.put 6 a6
  have q7 : Row _ p T #[a0, a1, a2, a3, a4, a5, a6, a7, z8, z9, z10, z11, z12, z13, z14] := q6.put 7 a7
  have q8 : Row _ p T #[a0, a1, a2, a3, a4, a5, a6, a7, a8, z9, z10, z11, z12, z13, z14] := q7.put 8 a8
  have q9 : Row _ p T #[a0, a1, a2, a3, a4, a5, a6, a7, a8, a9, z10, z11, z12, z13, z14] := q8.put 9 a9
  have q10 : Row _ p T #[a0, a1, a2, a3, a4, a5, a6, a7, a8, a9, a10, z11, z12, z13, z14] := q9.put 10 a10
  have q11 : Row _ p T #[a0, a1, a2, a3, a4, a5, a6, a7, a8, a9, a10, a11, z12, z13, z14] := q10.put 11 a11
  have q12 : Row _ p T #[a0, a1, a2, a3, a4, a5, a6, a7, a8, a9, a10, a11, a12, z13, z14] := q11.put 12 a12
  have q13 : Row _ p T #[a0, a1, a2, a3, a4, a5, a6, a7, a8, a9, a10, a11, a12, a13, z14] := q12.put 13 a13
  exact q13.put 14 a14

theorem blw15 {B p : Nat} {w W : World} (hp : B ≤ p) (h : Below B w W) (a0 a1 a2 a3 a4 a5 a6 a7 a8 a9 a10 a11 a12 a13 a14 : Value) :
    Below B w (((((((((((((((W.setCell ⟨p, 0, none⟩ a0).setCell ⟨p, 1, none⟩ a1).setCell ⟨p, 2, none⟩ a2).setCell ⟨p, 3, none⟩ a3).setCell ⟨p, 4, none⟩ a4).setCell ⟨p, 5, none⟩ a5).setCell ⟨p, 6, none⟩ a6).setCell ⟨p, 7, none⟩ a7).setCell ⟨p, 8, none⟩ a8).setCell ⟨p, 9, none⟩ a9).setCell ⟨p, 10, none⟩ a10).setCell ⟨p, 11, none⟩ a11).setCell ⟨p, 12, none⟩ a12).setCell ⟨p, 13, none⟩ a13).setCell ⟨p, 14, none⟩ a14) :=
  (((((((((((((((h.setCell (p := ⟨p, 0, none⟩) hp a0).setCell (p := ⟨p, 1, none⟩) hp a1).setCell (p := ⟨p, 2, none⟩) hp a2).setCell (p := ⟨p, 3, none⟩) hp a3).setCell (p := ⟨p, 4, none⟩) hp a4).setCell (p := ⟨p, 5, none⟩) hp a5).setCell (p := ⟨p, 6, none⟩) hp a6).setCell (p := ⟨p, 7, none⟩) hp a7).setCell (p := ⟨p, 8, none⟩) hp a8).setCell (p := ⟨p, 9, none⟩) hp a9).setCell (p := ⟨p, 10, none⟩) hp a10).setCell (p := ⟨p, 11, none⟩) hp a11).setCell (p := ⟨p, 12, none⟩) hp a12).setCell (p := ⟨p, 13, none⟩) hp a13).setCell (p := ⟨p, 14, none⟩) hp a14)

/-- What Check carries ahead of its visitor. -/
structure MZ (w : World) (A1 : Option Addr) (k1 : Nat) (A2 : Option Addr) (k2 : Nat) (A3 : Option Addr) (k3 : Nat) (c : Ct) (W : World) : Prop where
  blw : Below w.heap.size w W
  row : Row W w.heap.size 33 #[.int .i64 c.sa, .int .i64 c.sr, .slice A1 c.bs.length k1, .int .i64 c.ta, .int .i64 c.tr, .int .i64 c.ts, .slice A2 c.ms.length k2, .slice A3 c.inv.length k3]
  see : CeAt W w.heap.size A1 k1 A2 k2 A3 k3 c
  z : Row W (w.heap.size + 1) 39 #[.int .i64 0, .int .i64 0, .int .i64 0, .int .i64 0, .int .i64 0, .int .i64 0, .int .i64 0]

/-- What Check carries: its certificate, its result's block, the visitor. -/
structure MC (w : World) (p : Nat) (A1 : Option Addr) (k1 : Nat) (A2 : Option Addr) (k2 : Nat) (A3 : Option Addr) (k3 : Nat) (c : Ct) (r : Rp) (W : World) : Prop where
  vi : VI w p A1 k1 A2 k2 A3 k3 c r W
  row : Row W w.heap.size 33 #[.int .i64 c.sa, .int .i64 c.sr, .slice A1 c.bs.length k1, .int .i64 c.ta, .int .i64 c.tr, .int .i64 c.ts, .slice A2 c.ms.length k2, .slice A3 c.inv.length k3]
  z : Row W (w.heap.size + 1) 39 #[.int .i64 0, .int .i64 0, .int .i64 0, .int .i64 0, .int .i64 0, .int .i64 0, .int .i64 0]
  lo : w.heap.size + 1 < p

section
variable {w W W' : World} {p : Nat} {A1 : Option Addr} {k1 : Nat} {A2 : Option Addr} {k2 : Nat} {A3 : Option Addr} {k3 : Nat} {c : Ct}{r r' : Rp}

theorem MZ.next (h : MZ w A1 k1 A2 k2 A3 k3 c W) (hb : Below W.heap.size W W') : MZ w A1 k1 A2 k2 A3 k3 c W' :=
  ⟨h.blw.trans (hb.mono h.blw.size), h.row.below hb h.row.lt, h.see.below (hb.mono h.blw.size), h.z.below hb h.z.lt⟩

theorem MZ.drew (h : MZ w A1 k1 A2 k2 A3 k3 c W) : MZ w A1 k1 A2 k2 A3 k3 c W.drew := h.next (Grew.drewN (Grew.refl W) 1).below

theorem MZ.alloc (h : MZ w A1 k1 A2 k2 A3 k3 c W) (o : Obj) : MZ w A1 k1 A2 k2 A3 k3 c (W.alloc o) := h.next ((Below.refl _ _).alloc (Nat.le_refl _) o)

theorem MC.mz (h : MC w p A1 k1 A2 k2 A3 k3 c r W) : MZ w A1 k1 A2 k2 A3 k3 c W := ⟨h.vi.blw, h.row, h.vi.see, h.z⟩

theorem MC.next (h : MC w p A1 k1 A2 k2 A3 k3 c r W) (hb : Below W.heap.size W W') : MC w p A1 k1 A2 k2 A3 k3 c r W' := ⟨h.vi.next hb, h.row.below hb h.row.lt, h.z.below hb h.z.lt, h.lo⟩

theorem MC.alloc (h : MC w p A1 k1 A2 k2 A3 k3 c r W) (o : Obj) : MC w p A1 k1 A2 k2 A3 k3 c r (W.alloc o) := h.next ((Below.refl _ _).alloc (Nat.le_refl _) o)

theorem MC.mv (h : MC w p A1 k1 A2 k2 A3 k3 c r W) (hv : VI w p A1 k1 A2 k2 A3 k3 c r' W') (hm : Mods (Is p) W W') : MC w p A1 k1 A2 k2 A3 k3 c r' W' :=
  ⟨hv, h.row.mods hm (fun e => by have := h.lo; have : w.heap.size = p := e; omega), h.z.mods hm (fun e => by have := h.lo; have : w.heap.size + 1 = p := e; omega), h.lo⟩

theorem MC.of {mx : Nat} {z0 z1 z2 z3 z4 z5 z6 z7 z8 z9 z10 z11 z12 z13 z14 : Value} (h : MZ w A1 k1 A2 k2 A3 k3 c W) (hr : Row W p 69 #[z0, z1, z2, z3, z4, z5, z6, z7, z8, z9, z10, z11, z12, z13, z14]) (hlo : w.heap.size + 1 < p) :
    MC w p A1 k1 A2 k2 A3 k3 c ⟨0, 0, 0, 0, 0, 0, mx⟩ (((((((((((((((W.setCell ⟨p, 0, none⟩ (.int .i64 c.sa)).setCell ⟨p, 1, none⟩ (.int .i64 c.sr)).setCell ⟨p, 2, none⟩ (.slice A1 c.bs.length k1)).setCell ⟨p, 3, none⟩ (.int .i64 c.ta)).setCell ⟨p, 4, none⟩ (.int .i64 c.tr)).setCell ⟨p, 5, none⟩ (.int .i64 c.ts)).setCell ⟨p, 6, none⟩ (.slice A2 c.ms.length k2)).setCell ⟨p, 7, none⟩ (.slice A3 c.inv.length k3)).setCell ⟨p, 8, none⟩ (.int .i64 0)).setCell ⟨p, 9, none⟩ (.int .i64 0)).setCell ⟨p, 10, none⟩ (.int .i64 0)).setCell ⟨p, 11, none⟩ (.int .i64 0)).setCell ⟨p, 12, none⟩ (.int .i64 0)).setCell ⟨p, 13, none⟩ (.int .i64 0)).setCell ⟨p, 14, none⟩ (.int .i64 (mx : Int))) := by
  have hb := blw15 (B := p) (Nat.le_refl _) (Below.refl p W) (.int .i64 c.sa) (.int .i64 c.sr) (.slice A1 c.bs.length k1) (.int .i64 c.ta) (.int .i64 c.tr) (.int .i64 c.ts) (.slice A2 c.ms.length k2) (.slice A3 c.inv.length k3) (.int .i64 0) (.int .i64 0) (.int .i64 0) (.int .i64 0) (.int .i64 0) (.int .i64 0) (.int .i64 (mx : Int))
  have hw := hb.mono (show w.heap.size ≤ p by omega)
  exact ⟨⟨h.blw.trans hw, hr.put15 _ _ _ _ _ _ _ _ _ _ _ _ _ _ _, h.see.below hw, by omega⟩, h.row.below hb (by omega), h.z.below hb (by omega), hlo⟩

end

set_option maxRecDepth 100000 in
set_option maxHeartbeats 16000000 in
theorem pckcheck_any {A1 : Option Addr} {k1 : Nat} {A2 : Option Addr} {k2 : Nat} {A3 : Option Addr} {k3 : Nat} {c : Ct} (w : World) (h : CeAt w w.heap.size A1 k1 A2 k2 A3 k3 c) (hs : SmC c) (hw : c.Wf) :
    Calls Tryz.prog 9 #[.agg #[.int .i64 c.sa, .int .i64 c.sr, .slice A1 c.bs.length k1, .int .i64 c.ta, .int .i64 c.tr, .int .i64 c.ts, .slice A2 c.ms.length k2, .slice A3 c.inv.length k3]] w (RpP w (checkC c)) := by
  have mixed : Tryz.prog.follows .mixedOrders = true := by kernel_rfl
  have HSM := Lib.hid hs
  have HWF := Lib.hid hw
  have HZ0 : Hid (MZ w A1 k1 A2 k2 A3 k3 c ((w.alloc (.cells #[.int .i64 c.sa, .int .i64 c.sr, .slice A1 c.bs.length k1, .int .i64 c.ta, .int .i64 c.tr, .int .i64 c.ts, .slice A2 c.ms.length k2, .slice A3 c.inv.length k3] 33)).alloc (.cells #[.int .i64 0, .int .i64 0, .int .i64 0, .int .i64 0, .int .i64 0, .int .i64 0, .int .i64 0] 39))) := by
    have hb1 := (Below.refl w.heap.size w).alloc (Nat.le_refl _) (.cells #[.int .i64 c.sa, .int .i64 c.sr, .slice A1 c.bs.length k1, .int .i64 c.ta, .int .i64 c.tr, .int .i64 c.ts, .slice A2 c.ms.length k2, .slice A3 c.inv.length k3] 33)
    have hb2 := (hb1.alloc hb1.size (.cells #[.int .i64 0, .int .i64 0, .int .i64 0, .int .i64 0, .int .i64 0, .int .i64 0, .int .i64 0] 39))
    have q1 := (Row.new w 33 #[.int .i64 c.sa, .int .i64 c.sr, .slice A1 c.bs.length k1, .int .i64 c.ta, .int .i64 c.tr, .int .i64 c.ts, .slice A2 c.ms.length k2, .slice A3 c.inv.length k3]).alloc (.cells #[.int .i64 0, .int .i64 0, .int .i64 0, .int .i64 0, .int .i64 0, .int .i64 0, .int .i64 0] 39)
    have q2 := Row.new (w.alloc (.cells #[.int .i64 c.sa, .int .i64 c.sr, .slice A1 c.bs.length k1, .int .i64 c.ta, .int .i64 c.tr, .int .i64 c.ts, .slice A2 c.ms.length k2, .slice A3 c.inv.length k3] 33)) 39 #[.int .i64 0, .int .i64 0, .int .i64 0, .int .i64 0, .int .i64 0, .int .i64 0, .int .i64 0]
    simp only [World.size_alloc] at q2
    exact ⟨hb2, q1, h.below hb2, q2⟩
  clear h hs hw
  go_enter Tryz.func9, Tryz.ntmps9
  go_upto_region 1 with fail
  generalize ((w.alloc (.cells #[.int .i64 c.sa, .int .i64 c.sr, .slice A1 c.bs.length k1, .int .i64 c.ta, .int .i64 c.tr, .int .i64 c.ts, .slice A2 c.ms.length k2, .slice A3 c.inv.length k3] 33)).alloc (.cells #[.int .i64 0, .int .i64 0, .int .i64 0, .int .i64 0, .int .i64 0, .int .i64 0, .int .i64 0] 39)) = W0 at *
  have c0 := HZ0.out.row.cell 0; have c1 := HZ0.out.row.cell 1; have c2 := HZ0.out.row.cell 2; have c3 := HZ0.out.row.cell 3
  have c4 := HZ0.out.row.cell 4; have c5 := HZ0.out.row.cell 5; have c6 := HZ0.out.row.cell 6; have c7 := HZ0.out.row.cell 7
  simp only [List.getElem?_toArray, List.getElem?_cons_zero, List.getElem?_cons_succ] at c0 c1 c2 c3 c4 c5 c6 c7
  have C1 := Lib.hid (pckvalid_any W0 (HZ0.out.see.more HZ0.out.blw.size) HSM.out HWF.out)
  go_step3
  go_wp2_with fail
  refine C1.out.mono ?_
  rintro e W1 ⟨rfl, hb⟩
  have HZ1 := Lib.hid (HZ0.out.next hb)
  clear c0 c1 c2 c3 c4 c5 c6 c7
  clear hb HZ0 C1
  obtain ⟨ev, hev⟩ : ∃ z, z = validC c := ⟨_, rfl⟩
  rw [← hev]
  have HEV := Lib.hid hev
  clear hev
  by_cases h0 : ev = 0
  · have d0 : (ev != 0) = false := by simp [h0]
    obtain ⟨N, n, m, hfit⟩ := fitC_of (HEV.out.symm.trans h0) HSM.out HWF.out
    have HFT := Lib.hid hfit
    have HCC : Hid (checkC c = if entP (c.i 0) c.sa = none then blksR c c.bs.length 0 (rep0 c) else ⟨23, 0, 0, 0, 0, 1 + (c.i 0).length, maxI c.inv⟩) := by
      show _ = _
      unfold checkC
      rw [if_neg (by rw [← HEV.out]; simpa using h0)]
    have HIN := Lib.hid hfit.ilen
    have HB40 := Lib.hid hfit.b40
    have HPOS := Lib.hid hfit.pos
    have HL40 : Hid (∀ l ∈ c.inv, l.length ≤ 400) := fun l hl => (HFT.out.inv l hl).2.1
    clear hfit h0 HEV
    obtain ⟨mx, hmx⟩ : ∃ z, z = maxI c.inv := ⟨_, rfl⟩
    have C4 : Hid (∀ V, MZ w A1 k1 A2 k2 A3 k3 c V → Calls Tryz.prog 24 #[.slice A3 c.inv.length k3] V fun e w' => e = .returned (.int .i64 (mx : Int)) ∧ V = w') := fun V hV => by
      rw [hmx]
      exact pcklarge_any hV.see.inv (by rw [HIN.out]; have := HB40.out; omega) (fun x hx => by have := HL40.out x hx; omega)
    have HMX := Lib.hid hmx
    clear hmx
    go_upto_region 4 with fail
    have HS4 : Hid (∀ V, MZ w A1 k1 A2 k2 A3 k3 c V → (V.cell? ⟨w.heap.size, 0, none⟩ = some (.int .i64 c.sa) ∧ V.cell? ⟨w.heap.size, 1, none⟩ = some (.int .i64 c.sr) ∧ V.cell? ⟨w.heap.size, 2, none⟩ = some (.slice A1 c.bs.length k1) ∧ V.cell? ⟨w.heap.size, 3, none⟩ = some (.int .i64 c.ta) ∧ V.cell? ⟨w.heap.size, 4, none⟩ = some (.int .i64 c.tr) ∧ V.cell? ⟨w.heap.size, 5, none⟩ = some (.int .i64 c.ts) ∧ V.cell? ⟨w.heap.size, 6, none⟩ = some (.slice A2 c.ms.length k2)) ∧ V.cell? ⟨w.heap.size, 7, none⟩ = some (.slice A3 c.inv.length k3)) := fun V h => ⟨⟨h.row.cell 0, h.row.cell 1, h.row.cell 2, h.row.cell 3, h.row.cell 4, h.row.cell 5, h.row.cell 6⟩, h.row.cell 7⟩
    go_cut [4] from 17 to 22 (fun s4 wx => ∃ p, s4 = .pointer (some ⟨p, 0, none⟩) ∧ Hid (MC w p A1 k1 A2 k2 A3 k3 c ⟨0, 0, 0, 0, 0, 0, mx⟩ wx))
    case first =>
      go_wp2_with fail
      refine wp_region_held_drew (S := fun w' => (w'.cell? ⟨w.heap.size, 0, none⟩ = some (.int .i64 c.sa) ∧ w'.cell? ⟨w.heap.size, 1, none⟩ = some (.int .i64 c.sr) ∧ w'.cell? ⟨w.heap.size, 2, none⟩ = some (.slice A1 c.bs.length k1) ∧ w'.cell? ⟨w.heap.size, 3, none⟩ = some (.int .i64 c.ta) ∧ w'.cell? ⟨w.heap.size, 4, none⟩ = some (.int .i64 c.tr) ∧ w'.cell? ⟨w.heap.size, 5, none⟩ = some (.int .i64 c.ts) ∧ w'.cell? ⟨w.heap.size, 6, none⟩ = some (.slice A2 c.ms.length k2)) ∧ w'.cell? ⟨w.heap.size, 7, none⟩ = some (.slice A3 c.inv.length k3)) (by kernel_rfl) (HS4.out _ HZ1.out.drew) (fun hHeld => ?_)
      have HM0 := Lib.hid HZ1.out.drew
      clear HZ1
      generalize hVV : W1.drew = V0 at *
      clear hVV
      refine take_at 0 17 (.agg #[.int .i64 c.sa, .int .i64 c.sr, .slice A1 c.bs.length k1, .int .i64 c.ta, .int .i64 c.tr, .int .i64 c.ts, .slice A2 c.ms.length k2, .slice A3 c.inv.length k3]) rfl rfl (by kernel_rfl) (by kernel_rfl) (by kernel_rfl) (fun _ _ _ h => h) (Or.inl ⟨by rfl, ?_⟩) hHeld ?_
      · intro w9 hSw
        (try dsimp only at hSw)
        go_simp
        all_goals (first | (intro h9; omega) | omega)
      (try simp only [Act.put, List.setIfInBounds_toArray, List.set_cons_zero, List.set_cons_succ])
      refine take_at 1 18 (.pointer (some ⟨w.heap.size, 7, none⟩)) rfl rfl (by kernel_rfl) (by kernel_rfl) (by kernel_rfl) (fun _ _ _ h => h) (Or.inl ⟨by rfl, ?_⟩) hHeld ?_
      · intro w9 hSw
        (try dsimp only at hSw)
        go_simp
        all_goals (first | (intro h9; omega) | omega)
      (try simp only [Act.put, List.setIfInBounds_toArray, List.set_cons_zero, List.set_cons_succ])
      refine take_at 2 19 (.slice A3 c.inv.length k3) rfl rfl (by kernel_rfl) (by kernel_rfl) (by kernel_rfl) (fun _ _ _ h => h) (Or.inl ⟨by rfl, ?_⟩) hHeld ?_
      · intro w9 hSw
        (try dsimp only at hSw)
        go_simp
        all_goals (first | (intro h9; omega) | omega)
      (try simp only [Act.put, List.setIfInBounds_toArray, List.set_cons_zero, List.set_cons_succ])
      refine wpAnyH_ready (rs := [3, 6]) (by kernel_rfl) (by simp) ?_
      refine AllReadyH.cons rfl (fun K hK => ?_) ?_
      · go_simp
        refine (C4.out V0 HM0.out).mono ?_
        rintro e V9 ⟨rfl, rfl⟩
        (try go_wp2_with fail)
        refine hK.out _ _ (HS4.out _ HM0.out) (fun hHeld => ?_)
        clear hK K
        refine take_at 4 21 (.agg #[.int .i64 0, .int .i64 0, .int .i64 0, .int .i64 0, .int .i64 0, .int .i64 0, .int .i64 (mx : Int)]) rfl rfl (by kernel_rfl) (by kernel_rfl) (by kernel_rfl) (fun _ _ _ h => h) (Or.inl ⟨by rfl, ?_⟩) hHeld ?_
        · intro w9 hSw
          (try dsimp only at hSw)
          go_simp
          all_goals (first | (intro h9; omega) | omega)
        (try simp only [Act.put, List.setIfInBounds_toArray, List.set_cons_zero, List.set_cons_succ])
        refine take_at 5 22 (.agg #[.int .i64 c.sa, .int .i64 c.sr, .slice A1 c.bs.length k1, .int .i64 c.ta, .int .i64 c.tr, .int .i64 c.ts, .slice A2 c.ms.length k2, .slice A3 c.inv.length k3, .int .i64 0, .int .i64 0, .int .i64 0, .int .i64 0, .int .i64 0, .int .i64 0, .int .i64 (mx : Int)]) rfl rfl (by kernel_rfl) (by kernel_rfl) (by kernel_rfl) (fun _ _ _ h => h) (Or.inl ⟨by rfl, ?_⟩) hHeld ?_
        · intro w9 hSw
          (try dsimp only at hSw)
          go_simp
          all_goals (first | (intro h9; omega) | omega)
        (try simp only [Act.put, List.setIfInBounds_toArray, List.set_cons_zero, List.set_cons_succ])
        refine wpAnyH_ready (rs := [6]) (by kernel_rfl) (by simp) ?_
        refine AllReadyH.cons rfl (fun K hK => ?_) ?_
        · go_simp
          have HMA := Lib.hid (HM0.out.alloc (.cells #[.int .i64 0, .int .i64 0, .slice none 0 0, .int .i64 0, .int .i64 0, .int .i64 0, .slice none 0 0, .slice none 0 0, .int .i64 0, .int .i64 0, .int .i64 0, .int .i64 0, .int .i64 0, .int .i64 0, .int .i64 0] 69))
          have HRO := Lib.hid (Row.new V0 69 #[.int .i64 0, .int .i64 0, .slice none 0 0, .int .i64 0, .int .i64 0, .int .i64 0, .slice none 0 0, .slice none 0 0, .int .i64 0, .int .i64 0, .int .i64 0, .int .i64 0, .int .i64 0, .int .i64 0, .int .i64 0])
          have hpz : w.heap.size + 1 < V0.heap.size := HM0.out.z.lt
          refine hK.out _ _ (HS4.out _ HMA.out) (fun hHeld => ?_)
          clear hK K
          generalize V0.heap.size = p at *
          generalize V0.alloc (.cells #[.int .i64 0, .int .i64 0, .slice none 0 0, .int .i64 0, .int .i64 0, .int .i64 0, .slice none 0 0, .slice none 0 0, .int .i64 0, .int .i64 0, .int .i64 0, .int .i64 0, .int .i64 0, .int .i64 0, .int .i64 0] 69) = V1 at *
          refine wpAnyH_ready (rs := [7]) (by kernel_rfl) (by simp) ?_
          refine AllReadyH.cons rfl (fun K hK => ?_) ?_
          · have hrow := HRO.out
            have f0 := hrow.cell 0; have f1 := hrow.cell 1; have f2 := hrow.cell 2; have f3 := hrow.cell 3; have f4 := hrow.cell 4; have f5 := hrow.cell 5; have f6 := hrow.cell 6; have f7 := hrow.cell 7; have f8 := hrow.cell 8; have f9 := hrow.cell 9; have f10 := hrow.cell 10; have f11 := hrow.cell 11; have f12 := hrow.cell 12; have f13 := hrow.cell 13; have f14 := hrow.cell 14
            simp only [List.getElem?_toArray, List.getElem?_cons_zero, List.getElem?_cons_succ] at f0 f1 f2 f3 f4 f5 f6 f7 f8 f9 f10 f11 f12 f13 f14
            have g0 := hrow.frozen 0; have g1 := hrow.frozen 1; have g2 := hrow.frozen 2; have g3 := hrow.frozen 3; have g4 := hrow.frozen 4; have g5 := hrow.frozen 5; have g6 := hrow.frozen 6; have g7 := hrow.frozen 7; have g8 := hrow.frozen 8; have g9 := hrow.frozen 9; have g10 := hrow.frozen 10; have g11 := hrow.frozen 11; have g12 := hrow.frozen 12; have g13 := hrow.frozen 13; have g14 := hrow.frozen 14
            have HMC := Lib.hid (MC.of (mx := mx) HMA.out hrow hpz)
            go_simp
            refine hK.out _ _ (HS4.out _ HMC.out.mz) (fun hHeld => ?_)
            clear hK K hrow f0 g0 f1 g1 f2 g2 f3 g3 f4 g4 f5 g5 f6 g6 f7 g7 f8 g8 f9 g9 f10 g10 f11 g11 f12 g12 f13 g13 f14 g14
            refine wpAnyH_done (by kernel_rfl) ?_ _
            clear hHeld
            go_wp2_with fail
            go_meet
            case rel => exact ⟨p, rfl, HMC.out⟩
          exact AllReadyH.nil
        exact AllReadyH.nil
      refine AllReadyH.cons rfl (fun K hK => ?_) ?_
      · go_simp
        have HMA := Lib.hid (HM0.out.alloc (.cells #[.int .i64 0, .int .i64 0, .slice none 0 0, .int .i64 0, .int .i64 0, .int .i64 0, .slice none 0 0, .slice none 0 0, .int .i64 0, .int .i64 0, .int .i64 0, .int .i64 0, .int .i64 0, .int .i64 0, .int .i64 0] 69))
        have HRO := Lib.hid (Row.new V0 69 #[.int .i64 0, .int .i64 0, .slice none 0 0, .int .i64 0, .int .i64 0, .int .i64 0, .slice none 0 0, .slice none 0 0, .int .i64 0, .int .i64 0, .int .i64 0, .int .i64 0, .int .i64 0, .int .i64 0, .int .i64 0])
        have hpz : w.heap.size + 1 < V0.heap.size := HM0.out.z.lt
        refine hK.out _ _ (HS4.out _ HMA.out) (fun hHeld => ?_)
        clear hK K
        generalize V0.heap.size = p at *
        generalize V0.alloc (.cells #[.int .i64 0, .int .i64 0, .slice none 0 0, .int .i64 0, .int .i64 0, .int .i64 0, .slice none 0 0, .slice none 0 0, .int .i64 0, .int .i64 0, .int .i64 0, .int .i64 0, .int .i64 0, .int .i64 0, .int .i64 0] 69) = V1 at *
        refine wpAnyH_ready (rs := [3]) (by kernel_rfl) (by simp) ?_
        refine AllReadyH.cons rfl (fun K hK => ?_) ?_
        · go_simp
          refine (C4.out V1 HMA.out).mono ?_
          rintro e V9 ⟨rfl, rfl⟩
          (try go_wp2_with fail)
          refine hK.out _ _ (HS4.out _ HMA.out) (fun hHeld => ?_)
          clear hK K
          refine take_at 4 21 (.agg #[.int .i64 0, .int .i64 0, .int .i64 0, .int .i64 0, .int .i64 0, .int .i64 0, .int .i64 (mx : Int)]) rfl rfl (by kernel_rfl) (by kernel_rfl) (by kernel_rfl) (fun _ _ _ h => h) (Or.inl ⟨by rfl, ?_⟩) hHeld ?_
          · intro w9 hSw
            (try dsimp only at hSw)
            go_simp
            all_goals (first | (intro h9; omega) | omega)
          (try simp only [Act.put, List.setIfInBounds_toArray, List.set_cons_zero, List.set_cons_succ])
          refine take_at 5 22 (.agg #[.int .i64 c.sa, .int .i64 c.sr, .slice A1 c.bs.length k1, .int .i64 c.ta, .int .i64 c.tr, .int .i64 c.ts, .slice A2 c.ms.length k2, .slice A3 c.inv.length k3, .int .i64 0, .int .i64 0, .int .i64 0, .int .i64 0, .int .i64 0, .int .i64 0, .int .i64 (mx : Int)]) rfl rfl (by kernel_rfl) (by kernel_rfl) (by kernel_rfl) (fun _ _ _ h => h) (Or.inl ⟨by rfl, ?_⟩) hHeld ?_
          · intro w9 hSw
            (try dsimp only at hSw)
            go_simp
            all_goals (first | (intro h9; omega) | omega)
          (try simp only [Act.put, List.setIfInBounds_toArray, List.set_cons_zero, List.set_cons_succ])
          refine wpAnyH_ready (rs := [7]) (by kernel_rfl) (by simp) ?_
          refine AllReadyH.cons rfl (fun K hK => ?_) ?_
          · have hrow := HRO.out
            have f0 := hrow.cell 0; have f1 := hrow.cell 1; have f2 := hrow.cell 2; have f3 := hrow.cell 3; have f4 := hrow.cell 4; have f5 := hrow.cell 5; have f6 := hrow.cell 6; have f7 := hrow.cell 7; have f8 := hrow.cell 8; have f9 := hrow.cell 9; have f10 := hrow.cell 10; have f11 := hrow.cell 11; have f12 := hrow.cell 12; have f13 := hrow.cell 13; have f14 := hrow.cell 14
            simp only [List.getElem?_toArray, List.getElem?_cons_zero, List.getElem?_cons_succ] at f0 f1 f2 f3 f4 f5 f6 f7 f8 f9 f10 f11 f12 f13 f14
            have g0 := hrow.frozen 0; have g1 := hrow.frozen 1; have g2 := hrow.frozen 2; have g3 := hrow.frozen 3; have g4 := hrow.frozen 4; have g5 := hrow.frozen 5; have g6 := hrow.frozen 6; have g7 := hrow.frozen 7; have g8 := hrow.frozen 8; have g9 := hrow.frozen 9; have g10 := hrow.frozen 10; have g11 := hrow.frozen 11; have g12 := hrow.frozen 12; have g13 := hrow.frozen 13; have g14 := hrow.frozen 14
            have HMC := Lib.hid (MC.of (mx := mx) HMA.out hrow hpz)
            go_simp
            refine hK.out _ _ (HS4.out _ HMC.out.mz) (fun hHeld => ?_)
            clear hK K hrow f0 g0 f1 g1 f2 g2 f3 g3 f4 g4 f5 g5 f6 g6 f7 g7 f8 g8 f9 g9 f10 g10 f11 g11 f12 g12 f13 g13 f14 g14
            refine wpAnyH_done (by kernel_rfl) ?_ _
            clear hHeld
            go_wp2_with fail
            go_meet
            case rel => exact ⟨p, rfl, HMC.out⟩
          exact AllReadyH.nil
        exact AllReadyH.nil
      exact AllReadyH.nil
    case rest =>
      obtain ⟨p, rfl, HM⟩ := hcut
      clear HS4 C4 HZ1
      have h0i : 0 < c.inv.length := by rw [HIN.out]; exact HPOS.out
      have hv0 := HFT.out.inv _ (Ct.i_mem h0i)
      have C5 := Lib.hid (ckentry_any HM.out.vi h0i (by have := hv0.2.1; omega) (by rw [Ct.i_lt h0i]; exact HWF.out.inv _ (List.getElem_mem h0i)) (fun x hx => ⟨(hv0.2.2.1 x hx).1.1, locS_nn (hv0.2.2.1 x hx).2⟩) (by show (0 : Nat) ≤ _; omega))
      clear hv0 h0i
      obtain ⟨eo, heo⟩ : ∃ z, z = entP (c.i 0) c.sa := ⟨_, rfl⟩
      obtain ⟨l0, hl0⟩ : ∃ z, z = (c.i 0).length := ⟨_, rfl⟩
      rw [← heo, ← hl0] at C5
      rw [← heo, ← hl0, ← HMX.out] at HCC
      have HRZ : Hid (rep0 c = ⟨0, 0, 0, 0, 0, 1 + l0, mx⟩) := by show _ = _; unfold rep0; rw [hl0, HMX.out]
      clear heo hl0 HMX
      rcases eo with _ | x
      · have HCR : Hid (checkC c = blksR c c.bs.length 0 (rep0 c)) := by
          show _ = _
          rw [HCC.out]
          exact if_pos rfl
        have HLB : Hid (LpB c 0 (rep0 c)) := LpB.start HFT.out
        rw [HRZ.out] at HLB
        clear HCC HRZ
        go_wp2_with fail
        refine C5.out.mono ?_
        rintro e W2 ⟨rfl, hv, hm⟩
        have hv' : VI w p A1 k1 A2 k2 A3 k3 c ⟨0, 0, 0, 0, 0, 1 + l0, mx⟩ W2 := by
          simpa [passR] using hv
        have HM2 := Lib.hid (HM.out.mv hv' hm)
        clear hv hv' hm HM C5
        dsimp only [Option.isNone]
        obtain ⟨nb, hnb⟩ : ∃ z, z = c.bs.length := ⟨_, rfl⟩
        have HNB := Lib.hid hnb
        have c0 := HM2.out.row.cell 0; have c1 := HM2.out.row.cell 1; have c2 := HM2.out.row.cell 2; have c3 := HM2.out.row.cell 3
        have c4 := HM2.out.row.cell 4; have c5 := HM2.out.row.cell 5; have c6 := HM2.out.row.cell 6; have c7 := HM2.out.row.cell 7
        simp only [List.getElem?_toArray, List.getElem?_cons_zero, List.getElem?_cons_succ] at c0 c1 c2 c3 c4 c5 c6 c7
        rw [← hnb] at c2
        clear hnb
        have HB40' : nb ≤ 40 := by rw [HNB.out]; exact HB40.out
        go_wp2_with fail
        (try go_step3)
        go_wp2_with fail
        clear c0 c1 c2 c3 c4 c5 c6 c7
        go_loopg [31] nb (fun g v31 wr => ∃ (i : Nat) (r : Rp), i + g = nb ∧ v31 = .int .i64 i ∧ Hid (LpB c i r) ∧ Hid (MC w p A1 k1 A2 k2 A3 k3 c r wr))
        case atStart => exact ⟨0, _, by omega, by go_num, HLB.out, HM2.out⟩
        case round =>
          clear HLB HM2
          obtain ⟨i, r, hgi, rfl, HLB, HM⟩ := hrel
          by_cases hi : i < nb
          · have hiz : (i : Int) < (nb : Int) := by omega
            have hib : i < c.bs.length := by rw [← HNB.out]; exact hi
            obtain ⟨b1, o1, rfl, hb1, hB1⟩ := HM.out.vi.see.bs.at_ hib
            obtain ⟨Ac, cc1, hq10, hq1l, hq1m, hq1i⟩ := hB1.code
            have f0 := hq10; have f1 := hB1.t0; have f2 := hB1.t1; have f3 := hB1.t2; have f4 := hB1.t3
            have HSU : Hid (succs (blkAt c.bs i).term = succs c.bs[i].term) := by show _ = _; rw [blkAt_lt hib]
            have hsm := HLB.out.ok.sm HFT.out (Nat.le_of_lt hib) (Nat.zero_le 2) HLB.out.lar
            generalize c.bs[i].term = bt at *
            generalize c.bs[i].code.length = lc at *
            clear hB1 hq10 hq1l hq1m hq1i
            go_upto_region 10 with fail
            have hrow := Row.new wr 49 #[.slice Ac lc cc1, .int .i64 bt.kind, .int .i64 bt.a, .int .i64 bt.to, .int .i64 bt.el]
            have HM1 := Lib.hid (HM.out.alloc (.cells #[.slice Ac lc cc1, .int .i64 bt.kind, .int .i64 bt.a, .int .i64 bt.to, .int .i64 bt.el] 49))
            have hpb : p < wr.heap.size := HM.out.vi.row.lt
            clear HM f0 f1 f2 f3 f4
            generalize (wr.alloc (.cells #[.slice Ac lc cc1, .int .i64 bt.kind, .int .i64 bt.a, .int .i64 bt.to, .int .i64 bt.el] 49)) = W3 at *
            generalize wr.heap.size = pb at *
            have C6 := Lib.hid (ckblock_any HM1.out.vi HFT.out HWF.out i hib HLB.out.err (by omega) (by omega) HLB.out.lar)
            clear hsm
            obtain ⟨ok, hok⟩ : ∃ z : Bool, z = ((ckB c i).err == 0) := ⟨_, rfl⟩
            rw [← hok] at C6
            have hxs := HFT.out.small hib
            have HNX := Lib.hid (HLB.out.next hib)
            have HES : Hid ((ckB c i).err = 0 → LpE c i (ckB c i).out 0 (blkR2 c i r) (visitR c i r)) := fun h => LpE.start HLB.out HFT.out hib h
            have HBR : Hid (ok = false → blkR2 c i r = visitR c i r ∧ (visitR c i r).err ≠ 0) := fun h => by
              rw [hok] at h
              have h9 : ¬ (ckB c i).err = 0 := by simpa using h
              unfold blkR2
              rw [if_neg h9]
              exact ⟨rfl, h9⟩
            have HEK : Hid (ok = true → (ckB c i).err = 0) := fun h => by rw [hok] at h; simpa using h
            obtain ⟨rv, hrv⟩ : ∃ z, z = visitR c i r := ⟨_, rfl⟩
            rw [← hrv] at C6 HES HBR
            obtain ⟨X, hX⟩ : ∃ z, z = ckB c i := ⟨_, rfl⟩
            rw [← hX] at C6 HES hxs HEK
            obtain ⟨hx1, hx2, hx3, hx4, hx5⟩ := hxs
            have HX1 := Lib.hid hx1
            clear hok hrv hX hx2 hx1
            go_wp2_with fail
            refine C6.out.mono ?_
            rintro e W4 ⟨A, cc, rfl, hv, hpl, hm⟩
            have HM4 := Lib.hid (HM1.out.mv hv hm)
            have HRW := Lib.hid (hrow.mods hm (fun e => by have : pb = p := e; omega))
            have HPL := Lib.hid hpl
            clear hv hpl hm HM1 hrow C6
            cases ok
            · have HCE : Hid (checkC c = rv) := by
                obtain ⟨h1, h2⟩ := HBR.out rfl
                have h3 := HNX.out.2 (by rw [h1]; exact h2)
                show _ = _
                rw [HCR.out, ← h3, h1]
              have HVX := Lib.hid HM4.out.vi
              have v0 := HVX.out.row.cell 0; have v1 := HVX.out.row.cell 1; have v2 := HVX.out.row.cell 2; have v3 := HVX.out.row.cell 3
              have v4 := HVX.out.row.cell 4; have v5 := HVX.out.row.cell 5; have v6 := HVX.out.row.cell 6; have v7 := HVX.out.row.cell 7
              have v8 := HVX.out.row.cell 8; have v9 := HVX.out.row.cell 9; have v10 := HVX.out.row.cell 10; have v11 := HVX.out.row.cell 11
              have v12 := HVX.out.row.cell 12; have v13 := HVX.out.row.cell 13; have v14 := HVX.out.row.cell 14
              have vf := fun k => HVX.out.row.frozen k
              simp only [List.getElem?_toArray, List.getElem?_cons_zero, List.getElem?_cons_succ] at v0 v1 v2 v3 v4 v5 v6 v7 v8 v9 v10 v11 v12 v13 v14
              have vf8 := vf 8; have vf9 := vf 9; have vf10 := vf 10; have vf11 := vf 11; have vf12 := vf 12; have vf13 := vf 13; have vf14 := vf 14
              clear vf
              clear HVX
              have z0 := HM4.out.z.cell 0; have z1 := HM4.out.z.cell 1; have z2 := HM4.out.z.cell 2; have z3 := HM4.out.z.cell 3
              have z4 := HM4.out.z.cell 4; have z5 := HM4.out.z.cell 5; have z6 := HM4.out.z.cell 6
              have zf := fun k => HM4.out.z.frozen k
              simp only [List.getElem?_toArray, List.getElem?_cons_zero, List.getElem?_cons_succ] at z0 z1 z2 z3 z4 z5 z6
              have zf0 := zf 0; have zf1 := zf 1; have zf2 := zf 2; have zf3 := zf 3; have zf4 := zf 4; have zf5 := zf 5; have zf6 := zf 6
              clear zf
              go_wp2
              (try simp only [Exit.inBlock, Exit.then])
              (try rw [Exit.noGoto_ret])
              refine bodyPost_ret (v := .agg #[.int .i64 rv.err, .int .i64 (rv.blk : Int), .int .i64 (rv.at_ : Int), .int .i64 (rv.blocks : Int), .int .i64 (rv.edges : Int), .int .i64 (rv.steps : Int), .int .i64 (rv.largest : Int)]) ?_ rfl ⟨?_, ?_⟩
              · exact results_cell_row rfl _ _ (w.heap.size + 1) 39 #[.int .i64 rv.err, .int .i64 (rv.blk : Int), .int .i64 (rv.at_ : Int), .int .i64 (rv.blocks : Int), .int .i64 (rv.edges : Int), .int .i64 (rv.steps : Int), .int .i64 (rv.largest : Int)] (0, 0) _ rfl (HM4.out.z.put7 _ _ _ _ _ _ _) Tryz.underlying39 rfl (by kernel_rfl)
              · rw [HCE.out]
              · exact blw7 (by omega) HM4.out.vi.blw _ _ _ _ _ _ _
            · have HLE := Lib.hid (HES.out (HEK.out rfl))
              have f0 := HRW.out.cell 0; have f1 := HRW.out.cell 1; have f2 := HRW.out.cell 2; have f3 := HRW.out.cell 3; have f4 := HRW.out.cell 4
              simp only [List.getElem?_toArray, List.getElem?_cons_zero, List.getElem?_cons_succ] at f0 f1 f2 f3 f4
              have C7 := Lib.hid fun W => succ_own bt W
              clear HES HEK HBR
              go_wp2_with fail
              refine (C7.out _).mono ?_
              rintro e W5 ⟨AS, cs, rfl, hcs, hcsm, hse, hb8, how⟩
              have hap : Hid (∀ a : Addr, AS = some a → ¬ Is p a.block) := fun a e h => by
                have h1 := how a e
                have h2 := HM4.out.vi.row.lt
                have : a.block = p := h
                omega
              have HM5 := Lib.hid (HM4.out.next hb8)
              have HPL5 := Lib.hid (HPL.out.next hb8)
              have HSE := Lib.hid hse
              have HSC := Lib.hid (fun (t : Int) (ht : t ∈ succs bt) => HFT.out.succ hib (t := t) (by rw [HSU.out]; exact ht))
              have HSL := Lib.hid (show (succs (blkAt c.bs i).term).length = (succs bt).length by rw [HSU.out])
              clear f0 f1 f2 f3 f4 HM4 HPL HRW hse hb8 how C7
              obtain ⟨sb, hsb⟩ : ∃ z, z = succs bt := ⟨_, rfl⟩
              rw [← hsb] at HSE HSC hcs HSL
              have HSB := Lib.hid hsb
              have hns2 : sb.length ≤ 2 := by rw [hsb]; exact succs_len bt
              rw [← hsb]
              clear hsb
              obtain ⟨ns, hns⟩ : ∃ z, z = sb.length := ⟨_, rfl⟩
              rw [← hns] at hns2 hcs ⊢
              have HNS := Lib.hid hns
              clear hns
              go_wp2
              go_loopg [47] ns (fun g v47 wr => ∃ (q : Nat) (r2 : Rp), q + g = ns ∧ v47 = .int .i64 q ∧ Hid (LpE c i X.out q (blkR2 c i r) r2) ∧ Hid (MC w p (some ⟨b1, o1, none⟩) k1 A2 k2 A3 k3 c r2 wr) ∧ Hid (PL w (.slice A X.out.length cc) X.out wr) ∧ Hid (Sees wr wr.heap.size AS (ints sb)))
              case atStart => exact ⟨0, _, by omega, by go_num, HLE.out, HM5.out, HPL5.out, HSE.out⟩
              case round =>
                clear HLE HM5 HPL5 HSE
                obtain ⟨q, r2, hgq, rfl, HLE, HM, HPL, HSE⟩ := hrel
                by_cases hq : q < ns
                · have hqz : (q : Int) < (ns : Int) := by omega
                  have hqs : q < sb.length := by rw [← HNS.out]; exact hq
                  have hts := HSC.out _ (List.getElem_mem hqs)
                  obtain ⟨tt, htt⟩ : ∃ tt : Nat, sb[q] = (tt : Int) := ⟨sb[q].toNat, by omega⟩
                  rw [htt] at hts
                  have hti : tt < c.inv.length := by rw [HIN.out]; omega
                  obtain ⟨b5, o5, rfl, hb5, hto⟩ := HSE.out (by intro e; have := congrArg List.length e; simp [ints] at this; rw [this] at hqs; simp at hqs)
                  have hto := hto q (.int .i64 (tt : Int)) (by rw [← htt]; simp [ints, hqs])
                  have HTB : Hid ((succs (blkAt c.bs i).term)[q]'(by rw [HSL.out]; exact hqs) = (tt : Int)) := by
                    show _ = _
                    rw [← htt]
                    congr 1
                    rw [HSU.out, HSB.out]
                  have hsm := HLE.out.ok.sm HFT.out (by omega) (show q ≤ 2 by omega) HLE.out.lar
                  have hvt := HFT.out.inv _ (Ct.i_mem hti)
                  have C8 := Lib.hid (ckedge_any HM.out.vi HPL.out i q tt hti (by have := hvt.2.1; omega) hvt.1 HX1.out (by omega) (by omega) (by omega) (by rw [HIN.out]; exact HB40.out))
                  clear hsm hvt hts htt
                  obtain ⟨mb, hmb⟩ : ∃ z : Bool, z = (misP (c.i tt) X.out).isNone := ⟨_, rfl⟩
                  rw [← hmb] at C8
                  have HMT : Hid (mb = true → misP (c.i (tt : Int).toNat) X.out = none) := fun h => by rw [Int.toNat_natCast]; rw [hmb] at h; simpa using h
                  have HMF : Hid (mb = false → misP (c.i (tt : Int).toNat) X.out ≠ none) := fun h => by rw [Int.toNat_natCast]; rw [hmb] at h; intro e; rw [e] at h; cases h
                  obtain ⟨re, hre⟩ : ∃ z, z = edgeR c X.out i (tt : Int) q r2 := ⟨_, rfl⟩
                  rw [← hre] at C8
                  have HRE := Lib.hid hre
                  clear hmb hre
                  go_wp2_with fail
                  refine C8.out.mono ?_
                  rintro e W7 ⟨rfl, hv, hm⟩
                  have HMn := Lib.hid (HM.out.mv hv hm)
                  have HPLn := Lib.hid (HPL.out.put_at HM.out.vi.row (by decide) HM.out.vi.lt hm)
                  have HSEn := Lib.hid ((sees_mods HSE.out hm (Nat.le_refl _) hap.out).more hm.size)
                  clear hv hm HM HPL HSE hto hb5 C8
                  cases mb
                  · have HCE : Hid (checkC c = re) := by
                      have h1 := LpE.bad HLE.out (by rw [HSL.out, ← HNS.out]; exact hq) HTB.out (HMF.out rfl)
                      have h3 := HNX.out.2 (by rw [h1.2]; decide)
                      show _ = _
                      rw [HCR.out, ← h3, h1.1, HRE.out]
                    have HVX := Lib.hid HMn.out.vi
                    have v0 := HVX.out.row.cell 0; have v1 := HVX.out.row.cell 1; have v2 := HVX.out.row.cell 2; have v3 := HVX.out.row.cell 3
                    have v4 := HVX.out.row.cell 4; have v5 := HVX.out.row.cell 5; have v6 := HVX.out.row.cell 6; have v7 := HVX.out.row.cell 7
                    have v8 := HVX.out.row.cell 8; have v9 := HVX.out.row.cell 9; have v10 := HVX.out.row.cell 10; have v11 := HVX.out.row.cell 11
                    have v12 := HVX.out.row.cell 12; have v13 := HVX.out.row.cell 13; have v14 := HVX.out.row.cell 14
                    have vf := fun k => HVX.out.row.frozen k
                    simp only [List.getElem?_toArray, List.getElem?_cons_zero, List.getElem?_cons_succ] at v0 v1 v2 v3 v4 v5 v6 v7 v8 v9 v10 v11 v12 v13 v14
                    have vf8 := vf 8; have vf9 := vf 9; have vf10 := vf 10; have vf11 := vf 11; have vf12 := vf 12; have vf13 := vf 13; have vf14 := vf 14
                    clear vf
                    clear HVX
                    have z0 := HMn.out.z.cell 0; have z1 := HMn.out.z.cell 1; have z2 := HMn.out.z.cell 2; have z3 := HMn.out.z.cell 3
                    have z4 := HMn.out.z.cell 4; have z5 := HMn.out.z.cell 5; have z6 := HMn.out.z.cell 6
                    have zf := fun k => HMn.out.z.frozen k
                    simp only [List.getElem?_toArray, List.getElem?_cons_zero, List.getElem?_cons_succ] at z0 z1 z2 z3 z4 z5 z6
                    have zf0 := zf 0; have zf1 := zf 1; have zf2 := zf 2; have zf3 := zf 3; have zf4 := zf 4; have zf5 := zf 5; have zf6 := zf 6
                    clear zf
                    go_wp2
                    (try simp only [Exit.inBlock, Exit.then])
                    (try rw [Exit.noGoto_ret])
                    refine bodyPost_ret (v := .agg #[.int .i64 re.err, .int .i64 (re.blk : Int), .int .i64 (re.at_ : Int), .int .i64 (re.blocks : Int), .int .i64 (re.edges : Int), .int .i64 (re.steps : Int), .int .i64 (re.largest : Int)]) ?_ rfl ⟨?_, ?_⟩
                    · exact results_cell_row rfl _ _ (w.heap.size + 1) 39 #[.int .i64 re.err, .int .i64 (re.blk : Int), .int .i64 (re.at_ : Int), .int .i64 (re.blocks : Int), .int .i64 (re.edges : Int), .int .i64 (re.steps : Int), .int .i64 (re.largest : Int)] (0, 0) _ rfl (HMn.out.z.put7 _ _ _ _ _ _ _) Tryz.underlying39 rfl (by kernel_rfl)
                    · rw [HCE.out]
                    · exact blw7 (by omega) HMn.out.vi.blw _ _ _ _ _ _ _
                  · have HLN : Hid (LpE c i X.out (q + 1) (blkR2 c i r) re) := by
                      have h1 := LpE.more HLE.out (by rw [HSL.out, ← HNS.out]; exact hq) HTB.out (HMT.out rfl)
                      rw [← HRE.out] at h1
                      exact h1
                    go_wp2
                    go_roundg (ns - (q + 1))
                    case measure => omega
                    case rel => exact ⟨q + 1, re, by omega, by go_num, HLN.out, HMn.out, HPLn.out, HSEn.out⟩
                · have hqz : ¬ (q : Int) < (ns : Int) := by omega
                  obtain rfl : q = ns := by omega
                  rw [HNS.out, ← HSL.out] at HLE
                  have HLN := Lib.hid (LpE.back HLE.out HLB.out hib)
                  go_wp2
                  go_roundg (nb - (i + 1))
                  case measure => omega
                  case rel => exact ⟨i + 1, r2, by omega, by go_num, HLN.out, HM.out⟩
          · have hiz : ¬ (i : Int) < (nb : Int) := by omega
            obtain rfl : i = nb := by omega
            have HCE : Hid (checkC c = r) := by
              have h1 := HLB.out.rest
              rw [← HNB.out, Nat.sub_self] at h1
              show _ = _
              rw [HCR.out, ← HNB.out, ← h1]
              rfl
            have HVX := Lib.hid HM.out.vi
            have v0 := HVX.out.row.cell 0; have v1 := HVX.out.row.cell 1; have v2 := HVX.out.row.cell 2; have v3 := HVX.out.row.cell 3
            have v4 := HVX.out.row.cell 4; have v5 := HVX.out.row.cell 5; have v6 := HVX.out.row.cell 6; have v7 := HVX.out.row.cell 7
            have v8 := HVX.out.row.cell 8; have v9 := HVX.out.row.cell 9; have v10 := HVX.out.row.cell 10; have v11 := HVX.out.row.cell 11
            have v12 := HVX.out.row.cell 12; have v13 := HVX.out.row.cell 13; have v14 := HVX.out.row.cell 14
            have vf := fun k => HVX.out.row.frozen k
            simp only [List.getElem?_toArray, List.getElem?_cons_zero, List.getElem?_cons_succ] at v0 v1 v2 v3 v4 v5 v6 v7 v8 v9 v10 v11 v12 v13 v14
            have vf8 := vf 8; have vf9 := vf 9; have vf10 := vf 10; have vf11 := vf 11; have vf12 := vf 12; have vf13 := vf 13; have vf14 := vf 14
            clear vf
            clear HVX
            have z0 := HM.out.z.cell 0; have z1 := HM.out.z.cell 1; have z2 := HM.out.z.cell 2; have z3 := HM.out.z.cell 3
            have z4 := HM.out.z.cell 4; have z5 := HM.out.z.cell 5; have z6 := HM.out.z.cell 6
            have zf := fun k => HM.out.z.frozen k
            simp only [List.getElem?_toArray, List.getElem?_cons_zero, List.getElem?_cons_succ] at z0 z1 z2 z3 z4 z5 z6
            have zf0 := zf 0; have zf1 := zf 1; have zf2 := zf 2; have zf3 := zf 3; have zf4 := zf 4; have zf5 := zf 5; have zf6 := zf 6
            clear zf
            go_wp2
            (try simp only [Exit.inBlock, Exit.then])
            (try rw [Exit.noGoto_ret])
            refine bodyPost_ret (v := .agg #[.int .i64 r.err, .int .i64 (r.blk : Int), .int .i64 (r.at_ : Int), .int .i64 (r.blocks : Int), .int .i64 (r.edges : Int), .int .i64 (r.steps : Int), .int .i64 (r.largest : Int)]) ?_ rfl ⟨?_, ?_⟩
            · exact results_cell_row rfl _ _ (w.heap.size + 1) 39 #[.int .i64 r.err, .int .i64 (r.blk : Int), .int .i64 (r.at_ : Int), .int .i64 (r.blocks : Int), .int .i64 (r.edges : Int), .int .i64 (r.steps : Int), .int .i64 (r.largest : Int)] (0, 0) _ rfl (HM.out.z.put7 _ _ _ _ _ _ _) Tryz.underlying39 rfl (by kernel_rfl)
            · rw [HCE.out]
            · exact blw7 (by omega) HM.out.vi.blw _ _ _ _ _ _ _
      · have HCR : Hid (checkC c = ⟨23, 0, 0, 0, 0, 1 + l0, mx⟩) := by
          show _ = _
          rw [HCC.out]
          exact if_neg (by simp)
        clear HCC HRZ
        go_wp2_with fail
        refine C5.out.mono ?_
        rintro e W2 ⟨rfl, hv, hm⟩
        have hv' : VI w p A1 k1 A2 k2 A3 k3 c ⟨23, 0, 0, 0, 0, 1 + l0, mx⟩ W2 := by
          simpa [passR] using hv
        have HM2 := Lib.hid (HM.out.mv hv' hm)
        clear hv hv' hm HM C5
        dsimp only [Option.isNone]
        have HVX := Lib.hid HM2.out.vi
        have v0 := HVX.out.row.cell 0; have v1 := HVX.out.row.cell 1; have v2 := HVX.out.row.cell 2; have v3 := HVX.out.row.cell 3
        have v4 := HVX.out.row.cell 4; have v5 := HVX.out.row.cell 5; have v6 := HVX.out.row.cell 6; have v7 := HVX.out.row.cell 7
        have v8 := HVX.out.row.cell 8; have v9 := HVX.out.row.cell 9; have v10 := HVX.out.row.cell 10; have v11 := HVX.out.row.cell 11
        have v12 := HVX.out.row.cell 12; have v13 := HVX.out.row.cell 13; have v14 := HVX.out.row.cell 14
        have vf := fun k => HVX.out.row.frozen k
        simp only [List.getElem?_toArray, List.getElem?_cons_zero, List.getElem?_cons_succ] at v0 v1 v2 v3 v4 v5 v6 v7 v8 v9 v10 v11 v12 v13 v14
        have vf8 := vf 8; have vf9 := vf 9; have vf10 := vf 10; have vf11 := vf 11; have vf12 := vf 12; have vf13 := vf 13; have vf14 := vf 14
        clear vf
        clear HVX
        have z0 := HM2.out.z.cell 0; have z1 := HM2.out.z.cell 1; have z2 := HM2.out.z.cell 2; have z3 := HM2.out.z.cell 3
        have z4 := HM2.out.z.cell 4; have z5 := HM2.out.z.cell 5; have z6 := HM2.out.z.cell 6
        have zf := fun k => HM2.out.z.frozen k
        simp only [List.getElem?_toArray, List.getElem?_cons_zero, List.getElem?_cons_succ] at z0 z1 z2 z3 z4 z5 z6
        have zf0 := zf 0; have zf1 := zf 1; have zf2 := zf 2; have zf3 := zf 3; have zf4 := zf 4; have zf5 := zf 5; have zf6 := zf 6
        clear zf
        go_wp2
        (try simp only [Exit.inBlock, Exit.then])
        (try rw [Exit.noGoto_ret])
        refine bodyPost_ret (v := .agg #[.int .i64 (⟨23, 0, 0, 0, 0, 1 + l0, mx⟩ : Rp).err, .int .i64 ((⟨23, 0, 0, 0, 0, 1 + l0, mx⟩ : Rp).blk : Int), .int .i64 ((⟨23, 0, 0, 0, 0, 1 + l0, mx⟩ : Rp).at_ : Int), .int .i64 ((⟨23, 0, 0, 0, 0, 1 + l0, mx⟩ : Rp).blocks : Int), .int .i64 ((⟨23, 0, 0, 0, 0, 1 + l0, mx⟩ : Rp).edges : Int), .int .i64 ((⟨23, 0, 0, 0, 0, 1 + l0, mx⟩ : Rp).steps : Int), .int .i64 ((⟨23, 0, 0, 0, 0, 1 + l0, mx⟩ : Rp).largest : Int)]) ?_ rfl ⟨?_, ?_⟩
        · exact results_cell_row rfl _ _ (w.heap.size + 1) 39 #[.int .i64 (⟨23, 0, 0, 0, 0, 1 + l0, mx⟩ : Rp).err, .int .i64 ((⟨23, 0, 0, 0, 0, 1 + l0, mx⟩ : Rp).blk : Int), .int .i64 ((⟨23, 0, 0, 0, 0, 1 + l0, mx⟩ : Rp).at_ : Int), .int .i64 ((⟨23, 0, 0, 0, 0, 1 + l0, mx⟩ : Rp).blocks : Int), .int .i64 ((⟨23, 0, 0, 0, 0, 1 + l0, mx⟩ : Rp).edges : Int), .int .i64 ((⟨23, 0, 0, 0, 0, 1 + l0, mx⟩ : Rp).steps : Int), .int .i64 ((⟨23, 0, 0, 0, 0, 1 + l0, mx⟩ : Rp).largest : Int)] (0, 0) _ rfl (HM2.out.z.put7 _ _ _ _ _ _ _) Tryz.underlying39 rfl (by kernel_rfl)
        · rw [HCR.out]
        · exact blw7 (by omega) HM2.out.vi.blw _ _ _ _ _ _ _
  · have d0 : (ev != 0) = true := by simp [h0]
    have HCC : Hid (checkC c = ⟨ev, 0, 0, 0, 0, 0, 0⟩) := by show _ = _; rw [checkC_bad (by rw [← HEV.out]; exact h0), ← HEV.out]
    clear h0
    have z0 := HZ1.out.z.cell 0; have z1 := HZ1.out.z.cell 1; have z2 := HZ1.out.z.cell 2; have z3 := HZ1.out.z.cell 3
    have z4 := HZ1.out.z.cell 4; have z5 := HZ1.out.z.cell 5; have z6 := HZ1.out.z.cell 6
    have zf := fun k => HZ1.out.z.frozen k
    simp only [List.getElem?_toArray, List.getElem?_cons_zero, List.getElem?_cons_succ] at z0 z1 z2 z3 z4 z5 z6
    have zf0 := zf 0; have zf1 := zf 1; have zf2 := zf 2; have zf3 := zf 3; have zf4 := zf 4; have zf5 := zf 5; have zf6 := zf 6
    clear zf
    go_wp2
    (try simp only [Exit.inBlock, Exit.then])
    (try rw [Exit.noGoto_ret])
    refine bodyPost_ret (v := .agg #[.int .i64 (⟨ev, 0, 0, 0, 0, 0, 0⟩ : Rp).err, .int .i64 ((⟨ev, 0, 0, 0, 0, 0, 0⟩ : Rp).blk : Int), .int .i64 ((⟨ev, 0, 0, 0, 0, 0, 0⟩ : Rp).at_ : Int), .int .i64 ((⟨ev, 0, 0, 0, 0, 0, 0⟩ : Rp).blocks : Int), .int .i64 ((⟨ev, 0, 0, 0, 0, 0, 0⟩ : Rp).edges : Int), .int .i64 ((⟨ev, 0, 0, 0, 0, 0, 0⟩ : Rp).steps : Int), .int .i64 ((⟨ev, 0, 0, 0, 0, 0, 0⟩ : Rp).largest : Int)]) ?_ rfl ⟨?_, ?_⟩
    · exact results_cell_row rfl _ _ (w.heap.size + 1) 39 #[.int .i64 (⟨ev, 0, 0, 0, 0, 0, 0⟩ : Rp).err, .int .i64 ((⟨ev, 0, 0, 0, 0, 0, 0⟩ : Rp).blk : Int), .int .i64 ((⟨ev, 0, 0, 0, 0, 0, 0⟩ : Rp).at_ : Int), .int .i64 ((⟨ev, 0, 0, 0, 0, 0, 0⟩ : Rp).blocks : Int), .int .i64 ((⟨ev, 0, 0, 0, 0, 0, 0⟩ : Rp).edges : Int), .int .i64 ((⟨ev, 0, 0, 0, 0, 0, 0⟩ : Rp).steps : Int), .int .i64 ((⟨ev, 0, 0, 0, 0, 0, 0⟩ : Rp).largest : Int)] (0, 0) _ rfl (HZ1.out.z.put7 _ _ _ _ _ _ _) Tryz.underlying39 rfl (by kernel_rfl)
    · rw [HCC.out]
    · exact blw7 (by omega) HZ1.out.blw _ _ _ _ _ _ _

end Go.Proofs.YtcoehkphdfejjaaGreat
