/-
  The checker of the program: Valid.
-/
import Derived.Test.YtcoehkphdfejjaaGreatCkVal
import Derived.Test.YtcoehkphdfejjaaGreatSrcCheck
import Derived.Test.YtcoehkphdfejjaaGreatMacCheck
import Derived.Test.YtcoehkphdfejjaaGreatEdInv
import Derived.Deep.RegionHeld3
namespace Go.Proofs.YtcoehkphdfejjaaGreat
open Go.RowKit
set_option linter.unusedVariables false
set_option linter.unusedSimpArgs false

set_option maxRecDepth 100000 in
set_option maxHeartbeats 4000000 in
theorem pckvalid_any {A1 : Option Addr} {k1 : Nat} {A2 : Option Addr} {k2 : Nat} {A3 : Option Addr} {k3 : Nat} {c : Ct} (w : World) (h : CeAt w w.heap.size A1 k1 A2 k2 A3 k3 c) (hs : SmC c) (hw : c.Wf) :
    Calls Tryz.prog 10 #[.agg #[.int .i64 c.sa, .int .i64 c.sr, .slice A1 c.bs.length k1, .int .i64 c.ta, .int .i64 c.tr, .int .i64 c.ts, .slice A2 c.ms.length k2, .slice A3 c.inv.length k3]] w fun e w' => e = .returned (.int .i64 (validC c)) ∧ Below w.heap.size w w' := by
  have HK := Lib.hid (CeK.start h)
  have HV : Hid (validC c = if eF c.sa c.sr c.bs ≠ 0 then eF c.sa c.sr c.bs else if eMF c.ta c.tr c.ts c.ms ≠ 0 then eMF c.ta c.tr c.ts c.ms else if c.bs.length ≠ c.ms.length ∨ c.sa ≠ c.ta then 14 else validE c.inv c.bs.length c.sr c.tr c.ts) := rfl
  obtain ⟨⟨s1, s2, s3⟩, ⟨s4, s5, s6, s7⟩, s8, s9⟩ := hs
  have S9 := Lib.hid s9
  have HWI := Lib.hid hw.inv
  clear h hw s9
  go_enter Tryz.func10, Tryz.ntmps10
  go_upto_region 1 with fail
  generalize (w.alloc (.cells #[.int .i64 c.sa, .int .i64 c.sr, .slice A1 c.bs.length k1, .int .i64 c.ta, .int .i64 c.tr, .int .i64 c.ts, .slice A2 c.ms.length k2, .slice A3 c.inv.length k3] 33)) = W0 at *
  have c0 := HK.out.row.cell 0; have c1 := HK.out.row.cell 1; have c2 := HK.out.row.cell 2; have c3 := HK.out.row.cell 3
  have c4 := HK.out.row.cell 4; have c5 := HK.out.row.cell 5; have c6 := HK.out.row.cell 6; have c7 := HK.out.row.cell 7
  simp only [List.getElem?_toArray, List.getElem?_cons_zero, List.getElem?_cons_succ] at c0 c1 c2 c3 c4 c5 c6 c7
  have C1 := Lib.hid (check_any _ A1 c.bs k1 c.sa c.sr W0 HK.out.see.bs HK.out.blw.size (by omega) (by omega))
  generalize eF c.sa c.sr c.bs = e1 at *
  go_wp2_with fail
  refine C1.out.mono ?_
  rintro e W1 ⟨rfl, hb⟩
  have HK1 := Lib.hid (HK.out.next hb)
  clear c0 c1 c2 c3 c4 c5 c6 c7
  clear hb HK C1
  by_cases h1 : e1 = 0
  · have d1 : (e1 != 0) = false := by simp [h1]
    have HV1 : Hid (validC c = if eMF c.ta c.tr c.ts c.ms ≠ 0 then eMF c.ta c.tr c.ts c.ms else if c.bs.length ≠ c.ms.length ∨ c.sa ≠ c.ta then 14 else validE c.inv c.bs.length c.sr c.tr c.ts) := by show _ = _; rw [HV.out, if_neg (by simpa using h1)]
    clear h1 HV
    have c0 := HK1.out.row.cell 0; have c1 := HK1.out.row.cell 1; have c2 := HK1.out.row.cell 2; have c3 := HK1.out.row.cell 3
    have c4 := HK1.out.row.cell 4; have c5 := HK1.out.row.cell 5; have c6 := HK1.out.row.cell 6; have c7 := HK1.out.row.cell 7
    simp only [List.getElem?_toArray, List.getElem?_cons_zero, List.getElem?_cons_succ] at c0 c1 c2 c3 c4 c5 c6 c7
    have C2 := Lib.hid (mcheck_any _ A2 c.ms k2 c.ta c.tr c.ts W1 HK1.out.see.ms HK1.out.blw.size (by omega) (by omega))
    generalize eMF c.ta c.tr c.ts c.ms = e2 at *
    go_wp2_with fail
    refine C2.out.mono ?_
    rintro e W2 ⟨rfl, hb⟩
    have HK2 := Lib.hid (HK1.out.next hb)
    clear c0 c1 c2 c3 c4 c5 c6 c7
    clear hb HK1 C2
    by_cases h2 : e2 = 0
    · have d2 : (e2 != 0) = false := by simp [h2]
      have HV2 : Hid (validC c = if c.bs.length ≠ c.ms.length ∨ c.sa ≠ c.ta then 14 else validE c.inv c.bs.length c.sr c.tr c.ts) := by show _ = _; rw [HV1.out, if_neg (by simpa using h2)]
      clear h2 HV1
      have c0 := HK2.out.row.cell 0; have c1 := HK2.out.row.cell 1; have c2 := HK2.out.row.cell 2; have c3 := HK2.out.row.cell 3
      have c4 := HK2.out.row.cell 4; have c5 := HK2.out.row.cell 5; have c6 := HK2.out.row.cell 6; have c7 := HK2.out.row.cell 7
      simp only [List.getElem?_toArray, List.getElem?_cons_zero, List.getElem?_cons_succ] at c0 c1 c2 c3 c4 c5 c6 c7
      by_cases h3 : c.bs.length = c.ms.length
      · have d3 : ((c.bs.length : Int) != (c.ms.length : Int)) = false := by simp [h3]
        by_cases h4 : c.sa = c.ta
        · have d4 : (c.sa != c.ta) = false := by simp [h4]
          have HV3 : Hid (validC c = validE c.inv c.bs.length c.sr c.tr c.ts) := by show _ = _; rw [HV2.out, if_neg (by simp [h3, h4])]
          clear h3 h4 HV2
          have C3 := Lib.hid (pvalid_any _ A3 c.inv k3 (c.bs.length : Int) c.sr c.tr c.ts W2 HK2.out.see.inv HK2.out.blw.size (by omega) (fun x hx => by have := S9.out x hx; omega) HWI.out)
          go_wp2_with fail
          refine C3.out.mono ?_
          rintro e W3 ⟨rfl, hG⟩
          have HK3 := Lib.hid (HK2.out.next hG)
          clear c0 c1 c2 c3 c4 c5 c6 c7
          clear hG HK2 C3
          go_wp2
          go_ret
          exact ⟨by rw [HV3.out]; rfl, HK3.out.blw⟩
        · have d4 : (c.sa != c.ta) = true := by simp [h4]
          have HV3 : Hid (validC c = 14) := by show _ = _; rw [HV2.out, if_pos (.inr h4)]
          clear h3 h4 HV2
          go_wp2
          go_ret
          exact ⟨by rw [HV3.out]; rfl, HK2.out.blw⟩
      · have d3 : ((c.bs.length : Int) != (c.ms.length : Int)) = true := by simp; omega
        have HV3 : Hid (validC c = 14) := by show _ = _; rw [HV2.out, if_pos (.inl h3)]
        clear h3 HV2
        go_wp2
        go_ret
        exact ⟨by rw [HV3.out]; rfl, HK2.out.blw⟩
    · have d2 : (e2 != 0) = true := by simp [h2]
      have HV2 : Hid (validC c = e2) := by show _ = _; rw [HV1.out, if_pos h2]
      clear h2 HV1
      go_wp2
      go_ret
      exact ⟨by rw [HV2.out]; rfl, HK2.out.blw⟩
  · have d1 : (e1 != 0) = true := by simp [h1]
    have HV1 : Hid (validC c = e1) := by show _ = _; rw [HV.out, if_pos h1]
    clear h1 HV
    go_wp2
    go_ret
    exact ⟨by rw [HV1.out]; rfl, HK1.out.blw⟩

end Go.Proofs.YtcoehkphdfejjaaGreat
