/-
  Missing of both.
-/
import Derived.Test.YtacendjemomkfaaPsOwn
namespace Go.Proofs.Ytacendjemomkfaa
open Go.RowKit
set_option linter.unusedVariables false

/-- What Missing returns. -/
def mres : Option Pr → Value
  | some p => .tuple #[.agg #[.int .i64 p.1, .int .i64 p.2], .bool true]
  | none => .tuple #[.agg #[.int .i64 0, .int .i64 0], .bool false]

set_option maxRecDepth 100000 in
set_option maxHeartbeats 4000000 in
theorem rmissing_any (B : Nat) (A A' : Option Addr) (a b : List Pr) (c c' : Nat) (w : World) (hs : Sees w B A (prs a)) (hs' : Sees w B A' (prs b)) (hB : B ≤ w.heap.size) (hm : a.length ≤ 1000000) (hm' : b.length ≤ 1000000) :
    Calls Try.prog 19 #[.slice A a.length c, .slice A' b.length c'] w fun e w' => e = .returned (mres (misP a b)) ∧ Below w.heap.size w w' := by
  have hR := Row.new w 25 #[.int .i64 0, .int .i64 0]
  have HWB := Lib.hid ((Below.refl w.heap.size w).alloc (Nat.le_refl _) (prObj 0 0))
  have hs1 := hs.alloc hB (prObj 0 0)
  have hs2 := hs'.alloc hB (prObj 0 0)
  clear hs hs'
  have C1 := Lib.hid fun W x h => rhas_any B A' b c' x W h
  have hml : b.length ≤ maxLen := by unfold maxLen; omega
  go_enter Try.func19, Try.ntmps19
  go_upto_region 1 with fail
  have hB1 : B ≤ (w.alloc (prObj 0 0)).heap.size := by simp; omega
  have HSZ := Lib.hid (show w.heap.size ≤ (w.alloc (prObj 0 0)).heap.size by simp)
  generalize (w.alloc (.cells #[.int .i64 0, .int .i64 0] 25)) = W0 at *
  have HR := Lib.hid hR
  clear hR
  go_wp2
  go_loopg [6] a.length (fun g v6 wr => ∃ k : Nat, k + g = a.length ∧ v6 = .int .i64 k ∧ Hid (∀ x ∈ a.take k, x ∈ b) ∧ Hid (Grew W0 wr))
  case atStart => exact ⟨0, by omega, by go_num, fun x hx => by simp at hx, Grew.refl W0⟩
  case round =>
    obtain ⟨k, hg, rfl, HT, HW⟩ := hrel
    have hR := HW.out.row HR.out
    by_cases hlt : k < a.length
    · obtain ⟨b1, o1, rfl, hb, hc0, hc1⟩ := sees_pair hs1 hlt
      have f0 := HW.out.cell hc0
      have f1 := HW.out.cell hc1
      have C2 : Hid (Calls Try.prog 27 #[.slice A' b.length c', .agg #[.int .i64 a[k].1, .int .i64 a[k].2]] wr fun e w' => e = .returned (.bool (hasP b a[k])) ∧ Grew wr w') := C1.out wr a[k] (hs2.below (HW.out.below.mono hB1)) (by have := HW.out.below.size; omega) hml
      have HN : Hid (hasP b a[k] = false → misP a b = some a[k]) := fun h => misP_take hlt HT.out (by simpa [hasP] using h)
      have HY : Hid (hasP b a[k] = true → ∀ x ∈ a.take (k + 1), x ∈ b) := fun h x hx => ((mem_take_succ hlt).1 hx).elim (HT.out x) fun e => by subst e; simpa [hasP] using h
      have hkz : (k : Int) < (a.length : Int) := by omega
      generalize a[k] = x at *
      obtain ⟨x1, x2⟩ := x
      dsimp only at *
      clear hs1 hs2 hc0 hc1
      generalize hasP b (x1, x2) = bb at *
      go_wp2_with fail
      refine C2.out.mono ?_
      rintro e W1 ⟨rfl, hG1⟩
      have HG1 := Lib.hid (HW.out.trans hG1)
      have g0 := hG1.cell f0
      have g1 := hG1.cell f1
      have hR1 := hG1.row hR
      have r0 := hR1.cell 0
      have r1 := hR1.cell 1
      have q0 := hR1.frozen 0
      have q1 := hR1.frozen 1
      simp only [List.getElem?_toArray, List.getElem?_cons_zero, List.getElem?_cons_succ] at r0 r1
      clear f0 f1 hG1 hR hR1
      cases bb
      · have HM := Lib.hid (HN.out rfl)
        go_wp2
        (try simp only [Exit.inBlock, Exit.then])
        refine bodyPost_ret (v := .tuple #[.agg #[.int .i64 x1, .int .i64 x2], .bool true]) ?_ rfl ⟨?_, ?_⟩
        · rw [results_cell_tmp rfl]
          go_simp
        · rw [HM.out]
          rfl
        · exact (((HWB.out.trans (HG1.out.below.mono HSZ.out)).setCell (p := ⟨w.heap.size, 0, none⟩) (Nat.le_refl _) _).setCell (p := ⟨w.heap.size, 1, none⟩) (Nat.le_refl _) _)
      · have HT2 := Lib.hid (HY.out rfl)
        go_wp2
        go_roundg (a.length - (k + 1))
        case measure => omega
        case rel => exact ⟨k + 1, by omega, by go_num, HT2.out, HG1.out⟩
    · have HM : Hid (misP a b = none) := misP_none.2 (by have := HT.out; rw [List.take_of_length_le (by omega)] at this; exact this)
      have hkz : ¬ (k : Int) < (a.length : Int) := by omega
      have r0 := hR.cell 0
      have r1 := hR.cell 1
      have q0 := hR.frozen 0
      have q1 := hR.frozen 1
      simp only [List.getElem?_toArray, List.getElem?_cons_zero, List.getElem?_cons_succ] at r0 r1
      clear hs1 hs2 hR
      go_wp2
      (try simp only [Exit.inBlock, Exit.then])
      refine bodyPost_ret (v := .tuple #[.agg #[.int .i64 0, .int .i64 0], .bool false]) ?_ rfl ⟨?_, ?_⟩
      · rw [results_cell_tmp rfl]
        go_simp
      · rw [HM.out]
        rfl
      · exact (((HWB.out.trans (HW.out.below.mono HSZ.out)).setCell (p := ⟨w.heap.size, 0, none⟩) (Nat.le_refl _) _).setCell (p := ⟨w.heap.size, 1, none⟩) (Nat.le_refl _) _)

end Go.Proofs.Ytacendjemomkfaa
