/-
  The order of pairs: cmp.Compare, cmp.Or, compare, Less of both.
-/
import Derived.Test.YthehcdajedaefaaPsMath
import Derived.Test.YthehcdajedaefaaPk2
import Derived.Deep.RegionHeld3
import Derived.Shelf.SlSortCmp.QuietGrown
import Derived.Lib.Small
import Derived.Laws.StructEq
import Derived.Deep.Cut
import Derived.Deep.CutRange
import Derived.Deep.DeepMust
namespace Go.Proofs.Ythehcdajedaefaa
open Go.RowKit
set_option linter.unusedVariables false

def orP (x y : Int) : Int := if x = 0 then y else x

theorem orP_0 {x : Int} (h : x = 0) (y : Int) : orP x y = y := if_pos h

theorem orP_1 {x : Int} (h : ¬ x = 0) (y : Int) : orP x y = x := if_neg h

/-- What the program's comparison gives. -/
def cmpP (p q : Pr) : Int := orP (Lib.compareInt p.1 q.1) (Lib.compareInt p.2 q.2)

theorem cmpP_lt (p q : Pr) : decide (cmpP p q < 0) = ltP p q := by
  unfold cmpP orP ltP Lib.compareInt
  by_cases h1 : p.1 < q.1
  · simp [h1]
  · by_cases h2 : q.1 < p.1
    · have h3 : ¬ p.1 = q.1 := by omega
      simp [h1, h2, h3]
    · have h3 : p.1 = q.1 := by omega
      by_cases h4 : p.2 < q.2
      · simp [h3, h4]
      · by_cases h5 : q.2 < p.2
        · simp [h3, h4, h5]
        · simp [h3, h4, h5]

theorem cmpP_zero (p q : Pr) : (cmpP p q == 0) = decide (p = q) := by
  unfold cmpP orP Lib.compareInt
  by_cases h1 : p.1 < q.1
  · have : p ≠ q := fun e => by subst e; omega
    simp [h1, this]
  · by_cases h2 : q.1 < p.1
    · have : p ≠ q := fun e => by subst e; omega
      simp [h1, h2, this]
    · have h3 : p.1 = q.1 := by omega
      by_cases h4 : p.2 < q.2
      · have : p ≠ q := fun e => by subst e; omega
        simp [h3, h4, this]
      · by_cases h5 : q.2 < p.2
        · have : p ≠ q := fun e => by subst e; omega
          simp [h3, h4, h5, this]
        · have : p = q := pr_eq h3 (by omega)
          simp [this]

set_option maxRecDepth 100000 in
set_option maxHeartbeats 1000000 in
theorem rless_any (p q : Pr) (w : World) : Calls Try.prog 30 #[.agg #[.int .i64 p.1, .int .i64 p.2], .agg #[.int .i64 q.1, .int .i64 q.2]] w fun e w' => e = .returned (.bool (ltP p q)) ∧ Grew w w' := by
  obtain ⟨p1, p2⟩ := p
  obtain ⟨q1, q2⟩ := q
  dsimp only
  obtain ⟨bb, hbb⟩ : ∃ b, b = ltP (p1, p2) (q1, q2) := ⟨_, rfl⟩
  rw [← hbb]
  have HBB := Lib.hid hbb
  clear hbb
  have hA := (Row.new w 52 #[.int .i64 p1, .int .i64 p2]).alloc (.cells #[.int .i64 q1, .int .i64 q2] 52)
  have hB := Row.new (w.alloc (.cells #[.int .i64 p1, .int .i64 p2] 52)) 52 #[.int .i64 q1, .int .i64 q2]
  rw [show (w.alloc (.cells #[.int .i64 p1, .int .i64 p2] 52)).heap.size = w.heap.size + 1 by simp] at hB
  have HG := Lib.hid (((Grew.refl w).alloc (.cells #[.int .i64 p1, .int .i64 p2] 52)).alloc (.cells #[.int .i64 q1, .int .i64 q2] 52))
  by_cases he : p1 = q1
  · have e1 : (p1 != q1) = false := by simp [he]
    have HE := Lib.hid he
    clear he
    go_enter Try.func30, Try.ntmps30
    go_upto_region 1 with fail
    generalize ((w.alloc (.cells #[.int .i64 p1, .int .i64 p2] 52)).alloc (.cells #[.int .i64 q1, .int .i64 q2] 52)) = W0 at *
    have a0 := hA.cell 0; have a1 := hA.cell 1; have b0 := hB.cell 0; have b1 := hB.cell 1
    simp only [List.getElem?_toArray, List.getElem?_cons_zero, List.getElem?_cons_succ] at a0 a1 b0 b1
    clear hA hB
    go_wp2
    go_ret
    refine ⟨?_, HG.out⟩
    rw [HBB.out]
    have h1 := HE.out
    simp [ltP, h1]
  · have e1 : (p1 != q1) = true := by simp [he]
    have HE := Lib.hid he
    clear he
    go_enter Try.func30, Try.ntmps30
    go_upto_region 1 with fail
    generalize ((w.alloc (.cells #[.int .i64 p1, .int .i64 p2] 52)).alloc (.cells #[.int .i64 q1, .int .i64 q2] 52)) = W0 at *
    have a0 := hA.cell 0; have a1 := hA.cell 1; have b0 := hB.cell 0; have b1 := hB.cell 1
    simp only [List.getElem?_toArray, List.getElem?_cons_zero, List.getElem?_cons_succ] at a0 a1 b0 b1
    clear hA hB
    go_wp2
    go_ret
    refine ⟨?_, HG.out⟩
    rw [HBB.out]
    have h1 := HE.out
    simp [ltP, h1]

theorem eq_pr (p q : Pr) (w : World) : (binOp .eql 52 (.agg #[.int .i64 p.1, .int .i64 p.2]) (.agg #[.int .i64 q.1, .int .i64 q.2])).run Try.prog w = .ok (.bool (decide (p = q))) w := by
  have u3 := Try.underlying3
  have a3 := Try.isAgg3
  have z3 := Try.sizeOf3
  have u23 := Try.underlying50
  have a23 := Try.isAgg50
  have z23 := Try.sizeOf50
  have hS : Try.prog.underlying 52 = some (.struct (Try.prog.fieldsOf 52)) := by kernel_rfl
  have hp : Try.prog.stoodInHeld 52 = false := by kernel_rfl
  rw [run_eql_struct, show (10000 : Nat) = 9999 + 1 from rfl, run_equalIn_agg w 9999 52 _ _ hS hp]
  simp only [Program.fieldsOf, Try.underlying52]
  obtain ⟨p1, p2⟩ := p
  obtain ⟨q1, q2⟩ := q
  go_simp
  by_cases h1 : p1 = q1 <;> by_cases h2 : p2 = q2 <;> simp [h1, h2]

theorem neq_pr (p q : Pr) (w : World) : (binOp .neq 52 (.agg #[.int .i64 p.1, .int .i64 p.2]) (.agg #[.int .i64 q.1, .int .i64 q.2])).run Try.prog w = .ok (.bool (!decide (p = q))) w := by
  have u3 := Try.underlying3
  have a3 := Try.isAgg3
  have z3 := Try.sizeOf3
  have u23 := Try.underlying50
  have a23 := Try.isAgg50
  have z23 := Try.sizeOf50
  have hS : Try.prog.underlying 52 = some (.struct (Try.prog.fieldsOf 52)) := by kernel_rfl
  have hp : Try.prog.stoodInHeld 52 = false := by kernel_rfl
  rw [run_neq_struct, show (10000 : Nat) = 9999 + 1 from rfl, run_equalIn_agg w 9999 52 _ _ hS hp]
  simp only [Program.fieldsOf, Try.underlying52]
  obtain ⟨p1, p2⟩ := p
  obtain ⟨q1, q2⟩ := q
  go_simp
  by_cases h1 : p1 = q1 <;> by_cases h2 : p2 = q2 <;> simp [h1, h2]

theorem guard_pr : Try.prog.eqGuardType Try.prog.depth 52 = false := by kernel_rfl

end Go.Proofs.Ythehcdajedaefaa
