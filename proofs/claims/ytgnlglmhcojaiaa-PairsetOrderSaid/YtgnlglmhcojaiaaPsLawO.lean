/-
  The walk of the statement on the order of pairs.
-/
import Derived.Test.YtgnlglmhcojaiaaPsAwake
import Derived.Test.YtgnlglmhcojaiaaPsIn
namespace Go.Proofs.Ytgnlglmhcojaiaa
open Go.RowKit
set_option linter.unusedVariables false

theorem order_facts (a b c : Pr) : (ltP a b = true → ltP b a = false) ∧ (ltP a b = false → ltP b a = false → a = b) ∧ (ltP a b = true → a ≠ b) ∧ (ltP b a = true → a ≠ b) ∧ (ltP a b = true → ltP b c = true → ltP a c = true) :=
  ⟨ltP_asymm, fun h k => ltP_total h k, ltP_ne, fun h => (ltP_ne h).symm, ltP_trans⟩

set_option maxRecDepth 100000 in
set_option maxHeartbeats 8000000 in
theorem PairsetOrder_walk (a0 a1 a2 : Array Value) (w : World) (w0 : IsPr w a0) (w1 : IsPr w a1) (w2 : IsPr w a2) :
    Calls Try.prog 5 #[.agg a0, .agg a1, .agg a2] w fun e w' => e = .returned (.bool true) ∧ Below w.heap.size w w' := by
  obtain ⟨⟨x1, x2⟩, rfl, _⟩ := w0
  obtain ⟨⟨y1, y2⟩, rfl, _⟩ := w1
  obtain ⟨⟨z1, z2⟩, rfl, _⟩ := w2
  dsimp only
  have hG := guard_pr
  have AW := Lib.hid fun W => awake_any W
  have L1 := Lib.hid fun W => less_any (x1, x2) (y1, y2) W
  have L2 := Lib.hid fun W => less_any (y1, y2) (x1, x2) W
  have L3 := Lib.hid fun W => less_any (y1, y2) (z1, z2) W
  have L4 := Lib.hid fun W => less_any (x1, x2) (z1, z2) W
  have hq : ∀ W, (binOp .eql 25 (.agg #[.int .i64 x1, .int .i64 x2]) (.agg #[.int .i64 y1, .int .i64 y2])).run Try.prog W = .ok (.bool (decide (((x1, x2) : Pr) = (y1, y2)))) W := fun W => eq_pr (x1, x2) (y1, y2) W
  have hA := ((Row.new w 25 #[.int .i64 x1, .int .i64 x2]).alloc (prObj y1 y2)).alloc (prObj z1 z2)
  have hB := (Row.new (w.alloc (prObj x1 x2)) 25 #[.int .i64 y1, .int .i64 y2]).alloc (prObj z1 z2)
  have hC := Row.new ((w.alloc (prObj x1 x2)).alloc (prObj y1 y2)) 25 #[.int .i64 z1, .int .i64 z2]
  rw [show (w.alloc (prObj x1 x2)).heap.size = w.heap.size + 1 by simp] at hB
  rw [show ((w.alloc (prObj x1 x2)).alloc (prObj y1 y2)).heap.size = w.heap.size + 1 + 1 by simp] at hC
  have HG0 := Lib.hid ((((Below.refl w.heap.size w).alloc (Nat.le_refl _) (prObj x1 x2)).alloc (by simp) (prObj y1 y2)).alloc (by simp; omega) (prObj z1 z2))
  obtain ⟨f1, f2, f3, f4, f5⟩ := order_facts (x1, x2) (y1, y2) (z1, z2)
  dsimp only at L1 L2 L3 L4
  generalize ltP (x1, x2) (y1, y2) = b1 at *
  generalize ltP (y1, y2) (x1, x2) = b2 at *
  generalize ltP (y1, y2) (z1, z2) = b3 at *
  generalize ltP (x1, x2) (z1, z2) = b4 at *
  go_enter Try.func5, Try.ntmps5
  go_upto_region 1 with fail
  generalize (((w.alloc (.cells #[.int .i64 x1, .int .i64 x2] 25)).alloc (.cells #[.int .i64 y1, .int .i64 y2] 25)).alloc (.cells #[.int .i64 z1, .int .i64 z2] 25)) = W0 at *
  have HA := Lib.hid hA
  have HB := Lib.hid hB
  have HC := Lib.hid hC
  clear hA hB hC
  go_wp2_with fail
  refine (AW.out _).mono ?_
  rintro e W1 ⟨rfl, hb⟩
  have HW1 := Lib.hid (HG0.out.trans (hb.mono HG0.out.size))
  have hA := HA.out.below hb HA.out.lt
  have hB := HB.out.below hb HB.out.lt
  have hC := HC.out.below hb HC.out.lt
  have c0 := hA.cell 0; have c1 := hA.cell 1; have c2 := hB.cell 0; have c3 := hB.cell 1; have c4 := hC.cell 0; have c5 := hC.cell 1
  simp only [List.getElem?_toArray, List.getElem?_cons_zero, List.getElem?_cons_succ] at c0 c1 c2 c3 c4 c5
  have HG := Lib.hid (Grew.refl W1)
  clear hA hB hC hb HA HB HC HG0
  cases b1
  · cases b2
    · rw [decide_eq_true (f2 rfl rfl)] at hq
      clear f1 f2 f3 f4 f5
      go_wp2_with (first
  | (go_at_call 23; go_must ((first | (with_reducible refine (L1.out _).mono ?_) | (with_reducible refine (L2.out _).mono ?_) | (with_reducible refine (L3.out _).mono ?_) | (with_reducible refine (L4.out _).mono ?_)); rintro e W1 ⟨rfl, hG⟩; replace c0 := hG.cell c0; replace c1 := hG.cell c1; replace c2 := hG.cell c2; replace c3 := hG.cell c3; replace c4 := hG.cell c4; replace c5 := hG.cell c5; replace HG := Lib.hid (HG.out.trans hG); clear hG)))
      go_ret
      exact ⟨rfl, HW1.out.trans (HG.out.below.mono HW1.out.size)⟩
    · rw [decide_eq_false (f4 rfl)] at hq
      clear f1 f2 f3 f4 f5
      go_wp2_with (first
  | (go_at_call 23; go_must ((first | (with_reducible refine (L1.out _).mono ?_) | (with_reducible refine (L2.out _).mono ?_) | (with_reducible refine (L3.out _).mono ?_) | (with_reducible refine (L4.out _).mono ?_)); rintro e W1 ⟨rfl, hG⟩; replace c0 := hG.cell c0; replace c1 := hG.cell c1; replace c2 := hG.cell c2; replace c3 := hG.cell c3; replace c4 := hG.cell c4; replace c5 := hG.cell c5; replace HG := Lib.hid (HG.out.trans hG); clear hG)))
      go_ret
      exact ⟨rfl, HW1.out.trans (HG.out.below.mono HW1.out.size)⟩
  · obtain rfl := f1 rfl
    rw [decide_eq_false (f3 rfl)] at hq
    cases b3
    · clear f1 f2 f3 f4 f5
      go_wp2_with (first
  | (go_at_call 23; go_must ((first | (with_reducible refine (L1.out _).mono ?_) | (with_reducible refine (L2.out _).mono ?_) | (with_reducible refine (L3.out _).mono ?_) | (with_reducible refine (L4.out _).mono ?_)); rintro e W1 ⟨rfl, hG⟩; replace c0 := hG.cell c0; replace c1 := hG.cell c1; replace c2 := hG.cell c2; replace c3 := hG.cell c3; replace c4 := hG.cell c4; replace c5 := hG.cell c5; replace HG := Lib.hid (HG.out.trans hG); clear hG)))
      go_ret
      exact ⟨rfl, HW1.out.trans (HG.out.below.mono HW1.out.size)⟩
    · obtain rfl := f5 rfl rfl
      clear f1 f2 f3 f4 f5
      go_wp2_with (first
  | (go_at_call 23; go_must ((first | (with_reducible refine (L1.out _).mono ?_) | (with_reducible refine (L2.out _).mono ?_) | (with_reducible refine (L3.out _).mono ?_) | (with_reducible refine (L4.out _).mono ?_)); rintro e W1 ⟨rfl, hG⟩; replace c0 := hG.cell c0; replace c1 := hG.cell c1; replace c2 := hG.cell c2; replace c3 := hG.cell c3; replace c4 := hG.cell c4; replace c5 := hG.cell c5; replace HG := Lib.hid (HG.out.trans hG); clear hG)))
      go_ret
      exact ⟨rfl, HW1.out.trans (HG.out.below.mono HW1.out.size)⟩

end Go.Proofs.Ytgnlglmhcojaiaa
