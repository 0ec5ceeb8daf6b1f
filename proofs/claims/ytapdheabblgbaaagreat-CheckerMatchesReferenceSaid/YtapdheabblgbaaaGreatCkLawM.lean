/-
  The walk of the statement on the reference.
-/
import Derived.Test.YtapdheabblgbaaaGreatCkAwk
import Derived.Test.YtapdheabblgbaaaGreatCkRef
import Derived.Test.YtapdheabblgbaaaGreatCkEq
import Derived.Test.YtapdheabblgbaaaGreatCkXl
namespace Go.Proofs.YtapdheabblgbaaaGreat
open Go.RowKit Go.Deep
set_option linter.unusedVariables false
set_option linter.unusedSimpArgs false

set_option maxRecDepth 100000 in
set_option maxHeartbeats 16000000 in
theorem CheckerMatchesReference_walk (a0 : Array Value) (w : World) (w0 : IsCert w a0) :
    Calls Tryz.prog 3 #[.agg a0] w fun e w' => e = .returned (.bool true) ∧ Below w.heap.size w w' := by
  have mixed : Tryz.prog.follows .mixedOrders = true := by kernel_rfl
  obtain ⟨c, A1, k1, A2, k2, A3, k3, rfl, hce, hwf⟩ := w0
  have AW : Hid (∀ W, Calls Tryz.prog 9 #[] W fun e w' => e = .returned (.bool true) ∧ Below W.heap.size W w') := fun W => ckawake_any W
  have HK := Lib.hid (CeK.start hce)
  have HWF := Lib.hid hwf
  have hm1 : c.bs.length ≤ 9223372036854775807 := by have := hce.l1; unfold maxLen at this; omega
  clear hce hwf
  go_enter Tryz.func3, Tryz.ntmps3
  go_upto_region 1 with fail
  have hz0 : w.heap.size < (w.alloc (.cells #[.int .i64 c.sa, .int .i64 c.sr, .slice A1 c.bs.length k1, .int .i64 c.ta, .int .i64 c.tr, .int .i64 c.ts, .slice A2 c.ms.length k2, .slice A3 c.inv.length k3] 30)).heap.size := by simp
  generalize (w.alloc (.cells #[.int .i64 c.sa, .int .i64 c.sr, .slice A1 c.bs.length k1, .int .i64 c.ta, .int .i64 c.tr, .int .i64 c.ts, .slice A2 c.ms.length k2, .slice A3 c.inv.length k3] 30)) = W0 at *
  go_wp2_with fail
  refine (AW.out _).mono ?_
  rintro e W1 ⟨rfl, hb⟩
  have HK1 := Lib.hid (HK.out.next hb)
  clear hb HK hz0
  have c0 := HK1.out.row.cell 0; have c1 := HK1.out.row.cell 1; have c2 := HK1.out.row.cell 2; have c3 := HK1.out.row.cell 3
  have c4 := HK1.out.row.cell 4; have c5 := HK1.out.row.cell 5; have c6 := HK1.out.row.cell 6; have c7 := HK1.out.row.cell 7
  simp only [List.getElem?_toArray, List.getElem?_cons_zero, List.getElem?_cons_succ] at c0 c1 c2 c3 c4 c5 c6 c7
  go_wp2_with fail
  refine (rckfew_any W1 (HK1.out.see.more HK1.out.blw.size)).mono ?_
  rintro e W2 ⟨⟨b, rfl, hF⟩, hb⟩
  have HK2 := Lib.hid (HK1.out.next hb)
  clear hb HK1
  clear c0 c1 c2 c3 c4 c5 c6 c7
  cases b
  · go_wp2_with fail
    refine (AW.out _).mono ?_
    rintro e W9 ⟨rfl, hb⟩
    have HZ := Lib.hid (HK2.out.next hb)
    clear hb HK2
    go_wp2
    go_ret
    exact ⟨rfl, HZ.out.blw⟩
  · have HSM := Lib.hid (hF rfl)
    clear hF
    have C1 : Hid (∀ W, CeK w w.heap.size A1 k1 A2 k2 A3 k3 c W → Calls Tryz.prog 11 #[.agg #[.int .i64 c.sa, .int .i64 c.sr, .slice A1 c.bs.length k1, .int .i64 c.ta, .int .i64 c.tr, .int .i64 c.ts, .slice A2 c.ms.length k2, .slice A3 c.inv.length k3]] W fun e w' => e = .returned (.int .i64 (validC c)) ∧ CeK w w.heap.size A1 k1 A2 k2 A3 k3 c w') := fun W h => (pckvalid_any W (h.see.more h.blw.size) HSM.out HWF.out).mono fun e w' ⟨he, hb⟩ => ⟨he, h.next hb⟩
    have C2 : Hid (∀ W, CeK w w.heap.size A1 k1 A2 k2 A3 k3 c W → Calls Tryz.prog 12 #[.agg #[.int .i64 c.sa, .int .i64 c.sr, .slice A1 c.bs.length k1, .int .i64 c.ta, .int .i64 c.tr, .int .i64 c.ts, .slice A2 c.ms.length k2, .slice A3 c.inv.length k3]] W fun e w' => e = .returned (.int .i64 (validC c)) ∧ CeK w w.heap.size A1 k1 A2 k2 A3 k3 c w') := fun W h => (rckvalid_any W (h.see.more h.blw.size) HSM.out HWF.out).mono fun e w' ⟨he, hb⟩ => ⟨he, h.next hb⟩
    have C3 : Hid (∀ W, CeK w w.heap.size A1 k1 A2 k2 A3 k3 c W → Calls Tryz.prog 13 #[.agg #[.int .i64 c.sa, .int .i64 c.sr, .slice A1 c.bs.length k1, .int .i64 c.ta, .int .i64 c.tr, .int .i64 c.ts, .slice A2 c.ms.length k2, .slice A3 c.inv.length k3]] W fun e w' => e = .returned (.agg #[.int .i64 (checkC c).err, .int .i64 ((checkC c).blk : Int), .int .i64 ((checkC c).at_ : Int), .int .i64 ((checkC c).blocks : Int), .int .i64 ((checkC c).edges : Int), .int .i64 ((checkC c).steps : Int), .int .i64 ((checkC c).largest : Int)]) ∧ CeK w w.heap.size A1 k1 A2 k2 A3 k3 c w') := fun W h => (pckcheck_any W (h.see.more h.blw.size) HSM.out HWF.out).mono fun e w' ⟨he, hb⟩ => ⟨he, h.next hb⟩
    have C4 : Hid (∀ W, CeK w w.heap.size A1 k1 A2 k2 A3 k3 c W → Calls Tryz.prog 14 #[.agg #[.int .i64 c.sa, .int .i64 c.sr, .slice A1 c.bs.length k1, .int .i64 c.ta, .int .i64 c.tr, .int .i64 c.ts, .slice A2 c.ms.length k2, .slice A3 c.inv.length k3]] W fun e w' => e = .returned (.agg #[.int .i64 (checkC c).err, .int .i64 ((checkC c).blk : Int), .int .i64 ((checkC c).at_ : Int), .int .i64 ((checkC c).blocks : Int), .int .i64 ((checkC c).edges : Int), .int .i64 ((checkC c).steps : Int), .int .i64 ((checkC c).largest : Int)]) ∧ CeK w w.heap.size A1 k1 A2 k2 A3 k3 c w') := fun W h => (rckcheck_any W (h.see.more h.blw.size) HSM.out HWF.out).mono fun e w' ⟨he, hb⟩ => ⟨he, h.next hb⟩
    have hq := fun W => eq_rp (checkC c) (checkC c) W
    rw [rpS_refl] at hq
    generalize validC c = v at *
    generalize checkC c = r at *
    obtain ⟨r0, r1, r2, r3, r4, r5, r6⟩ := r
    dsimp only at hq C3 C4
    have hz0 : w.heap.size < W2.heap.size := HK2.out.row.lt
    have hG := HK2.out
    clear HK2 HSM HWF
    go_wp2_with fail
    go_region_held3 (fun w' => CeK w w.heap.size A1 k1 A2 k2 A3 k3 c w' ∧ w'.cell? ⟨w.heap.size, 0, none⟩ = some (.int .i64 c.sa) ∧ w'.cell? ⟨w.heap.size, 1, none⟩ = some (.int .i64 c.sr) ∧ w'.cell? ⟨w.heap.size, 2, none⟩ = some (.slice A1 c.bs.length k1) ∧ w'.cell? ⟨w.heap.size, 3, none⟩ = some (.int .i64 c.ta) ∧ w'.cell? ⟨w.heap.size, 4, none⟩ = some (.int .i64 c.tr) ∧ w'.cell? ⟨w.heap.size, 5, none⟩ = some (.int .i64 c.ts) ∧ w'.cell? ⟨w.heap.size, 6, none⟩ = some (.slice A2 c.ms.length k2) ∧ w'.cell? ⟨w.heap.size, 7, none⟩ = some (.slice A3 c.inv.length k3)) (first | exact hG.cells | exact hG.drew.cells | exact (hG.drewN _).cells) (first
      | (go_at_call 11; go_must ((with_reducible refine (C1.out _ (by first | exact hG | exact hG.drew | exact hG.drewN _)).mono ?_); rintro e W3 ⟨rfl, hG⟩))
      | (go_at_call 12; go_must ((with_reducible refine (C2.out _ (by first | exact hG | exact hG.drew | exact hG.drewN _)).mono ?_); rintro e W3 ⟨rfl, hG⟩))
      | (go_at_call 13; go_must ((with_reducible refine (C3.out _ (by first | exact hG | exact hG.drew | exact hG.drewN _)).mono ?_); rintro e W3 ⟨rfl, hG⟩))
      | (go_at_call 14; go_must ((with_reducible refine (C4.out _ (by first | exact hG | exact hG.drew | exact hG.drewN _)).mono ?_); rintro e W3 ⟨rfl, hG⟩)))
    go_wp2
    go_ret
    exact ⟨rfl, hG.blw⟩
end Go.Proofs.YtapdheabblgbaaaGreat
