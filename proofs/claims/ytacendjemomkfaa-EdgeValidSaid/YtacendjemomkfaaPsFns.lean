/-
  The order of pairs: cmp.Compare, cmp.Or, compare, Less of both.
-/
import Derived.Test.YtacendjemomkfaaPsMath
import Derived.Test.YtacendjemomkfaaGrew
import Derived.Deep.RegionHeld3
import Derived.Shelf.SlSortCmp.QuietGrown
import Derived.Lib.Small
import Derived.Laws.StructEq
import Derived.Deep.Cut
import Derived.Deep.CutRange
import Derived.Deep.DeepMust
namespace Go.Proofs.Ytacendjemomkfaa
open Go.RowKit
set_option linter.unusedVariables false

set_option maxHeartbeats 1000000 in
theorem cmpInt_any (x y : Int) (w : World) : Calls Try.prog 36 #[.int .i64 x, .int .i64 y] w fun e w' => e = .returned (.int .i64 (Lib.compareInt x y)) ∧ w' = w := by
  have hn : ∀ v W, Calls Try.prog 38 #[.int .i64 v] W fun e w' => e = .returned (.bool false) ∧ w' = W := fun v W => by
    go_enter Try.func38, Try.ntmps38
    go_wp2
    go_ret
    exact ⟨by simp, rfl⟩
  go_enter Try.func36, Try.ntmps36
  go_wp2_with (go_at_call 38; refine (hn _ _).mono ?_; rintro e w' ⟨rfl, rfl⟩)
  all_goals (go_ret; refine ⟨?_, rfl⟩; unfold Lib.compareInt; (repeat' split) <;> first | rfl | (exfalso; omega))

set_option maxHeartbeats 1000000 in
theorem cmpLoc_any (x y : Int) (w : World) : Calls Try.prog 37 #[.int .i64 x, .int .i64 y] w fun e w' => e = .returned (.int .i64 (Lib.compareInt x y)) ∧ w' = w := by
  have hn : ∀ v W, Calls Try.prog 39 #[.int .i64 v] W fun e w' => e = .returned (.bool false) ∧ w' = W := fun v W => by
    go_enter Try.func39, Try.ntmps39
    go_wp2
    go_ret
    exact ⟨by simp, rfl⟩
  go_enter Try.func37, Try.ntmps37
  go_wp2_with (go_at_call 39; refine (hn _ _).mono ?_; rintro e w' ⟨rfl, rfl⟩)
  all_goals (go_ret; refine ⟨?_, rfl⟩; unfold Lib.compareInt; (repeat' split) <;> first | rfl | (exfalso; omega))

def orP (x y : Int) : Int := if x = 0 then y else x
theorem orP_0 {x : Int} (h : x = 0) (y : Int) : orP x y = y := if_pos h
theorem orP_1 {x : Int} (h : ¬ x = 0) (y : Int) : orP x y = x := if_neg h

set_option maxHeartbeats 1000000 in
theorem cmpOr_any (b c : Nat) (x y : Int) (w : World) (h0 : w.cell? ⟨b, 0, none⟩ = some (.int .i64 x)) (h1 : w.cell? ⟨b, 1, none⟩ = some (.int .i64 y)) :
    Calls Try.prog 35 #[.slice (some ⟨b, 0, none⟩) 2 c] w fun e w' => e = .returned (.int .i64 (orP x y)) ∧ w' = w := by
  by_cases hx : x = 0
  · have e1 : (x != 0) = false := by simp [hx]
    have HX := Lib.hid hx
    clear hx
    by_cases hy : y = 0
    · have e2 : (y != 0) = false := by simp [hy]
      have HY := Lib.hid hy
      clear hy
      go_enter Try.func35, Try.ntmps35
      go_wp2
      refine wp_loop_rounds 3 ?_
      rw [rounds_succ]
      go_wp2
      rw [rounds_succ]
      go_wp2
      rw [rounds_succ]
      go_wp2
      go_ret
      exact ⟨by rw [orP_0 HX.out, HY.out]; rfl, rfl⟩
    · have e2 : (y != 0) = true := by simp [hy]
      clear hy
      go_enter Try.func35, Try.ntmps35
      go_wp2
      refine wp_loop_rounds 2 ?_
      rw [rounds_succ]
      go_wp2
      rw [rounds_succ]
      go_wp2
      go_ret
      exact ⟨by rw [orP_0 HX.out]; rfl, rfl⟩
  · have e1 : (x != 0) = true := by simp [hx]
    have HX := Lib.hid hx
    clear hx
    go_enter Try.func35, Try.ntmps35
    go_wp2
    refine wp_loop_rounds 1 ?_
    rw [rounds_succ]
    go_wp2
    go_ret
    exact ⟨by rw [orP_1 HX.out]; rfl, rfl⟩

/-- What the program's comparison gives. -/
def cmpP (p q : Pr) : Int := orP (Lib.compareInt p.1 q.1) (Lib.compareInt p.2 q.2)

theorem cmpP_lt (p q : Pr) : decide (cmpP p q < 0) = ltP p q := by
  unfold cmpP orP ltP Lib.compareInt
  by_cases h1 : p.1 < q.1
  · simp [h1]
  · by_cases h2 : q.1 < p.1
    · have h3 : ¬ p.1 = q.1 := by omega
      simp [h1, h2, h3]
    · have h3 : p.1 = q.1 := by omega
      by_cases h4 : p.2 < q.2
      · simp [h3, h4]
      · by_cases h5 : q.2 < p.2
        · simp [h3, h4, h5]
        · simp [h3, h4, h5]

theorem cmpP_zero (p q : Pr) : (cmpP p q == 0) = decide (p = q) := by
  unfold cmpP orP Lib.compareInt
  by_cases h1 : p.1 < q.1
  · have : p ≠ q := fun e => by subst e; omega
    simp [h1, this]
  · by_cases h2 : q.1 < p.1
    · have : p ≠ q := fun e => by subst e; omega
      simp [h1, h2, this]
    · have h3 : p.1 = q.1 := by omega
      by_cases h4 : p.2 < q.2
      · have : p ≠ q := fun e => by subst e; omega
        simp [h3, h4, this]
      · by_cases h5 : q.2 < p.2
        · have : p ≠ q := fun e => by subst e; omega
          simp [h3, h4, h5, this]
        · have : p = q := pr_eq h3 (by omega)
          simp [this]

set_option maxRecDepth 100000 in
set_option maxHeartbeats 1000000 in
theorem compare_any (p q : Pr) (w : World) : Calls Try.prog 34 #[.agg #[.int .i64 p.1, .int .i64 p.2], .agg #[.int .i64 q.1, .int .i64 q.2]] w fun e w' => e = .returned (.int .i64 (cmpP p q)) ∧ Grew w w' := by
  obtain ⟨p1, p2⟩ := p
  obtain ⟨q1, q2⟩ := q
  unfold cmpP
  dsimp only
  have C1 := Lib.hid fun W => cmpInt_any p1 q1 W
  have C2 := Lib.hid fun W => cmpLoc_any p2 q2 W
  generalize Lib.compareInt p1 q1 = x at C1 ⊢
  generalize Lib.compareInt p2 q2 = y at C2 ⊢
  have hA := (Row.new w 25 #[.int .i64 p1, .int .i64 p2]).alloc (.cells #[.int .i64 q1, .int .i64 q2] 25)
  have hB := Row.new (w.alloc (.cells #[.int .i64 p1, .int .i64 p2] 25)) 25 #[.int .i64 q1, .int .i64 q2]
  rw [show (w.alloc (.cells #[.int .i64 p1, .int .i64 p2] 25)).heap.size = w.heap.size + 1 by simp] at hB
  have HG := Lib.hid (((Grew.refl w).alloc (.cells #[.int .i64 p1, .int .i64 p2] 25)).alloc (.cells #[.int .i64 q1, .int .i64 q2] 25))
  go_enter Try.func34, Try.ntmps34
  go_upto_region 1 with fail
  generalize ((w.alloc (.cells #[.int .i64 p1, .int .i64 p2] 25)).alloc (.cells #[.int .i64 q1, .int .i64 q2] 25)) = W0 at *
  have a0 := hA.cell 0; have a1 := hA.cell 1; have b0 := hB.cell 0; have b1 := hB.cell 1
  simp only [List.getElem?_toArray, List.getElem?_cons_zero, List.getElem?_cons_succ] at a0 a1 b0 b1
  have n0 := (Row.new W0 3 #[.int .i64 x, .int .i64 y]).cell 0
  have n1 := (Row.new W0 3 #[.int .i64 x, .int .i64 y]).cell 1
  have C3 : Hid (Calls Try.prog 35 #[.slice (some ⟨W0.heap.size, 0, none⟩) 2 2] (W0.alloc (.cells #[.int .i64 x, .int .i64 y] 3)).drew fun e w' => e = .returned (.int .i64 (orP x y)) ∧ w' = (W0.alloc (.cells #[.int .i64 x, .int .i64 y] 3)).drew) := cmpOr_any W0.heap.size 2 x y (W0.alloc (.cells #[.int .i64 x, .int .i64 y] 3)).drew n0 n1
  clear n0 n1
  clear hA hB
  have HS : Hid (∀ W, Grew W0 W → W.cell? ⟨w.heap.size, 0, none⟩ = some (.int .i64 p1) ∧ W.cell? ⟨w.heap.size, 1, none⟩ = some (.int .i64 p2) ∧ W.cell? ⟨w.heap.size + 1, 0, none⟩ = some (.int .i64 q1) ∧ W.cell? ⟨w.heap.size + 1, 1, none⟩ = some (.int .i64 q2)) := fun W h => ⟨h.cell a0, h.cell a1, h.cell b0, h.cell b1⟩
  have hG := Grew.refl W0
  go_region_held3 (fun w' => w'.cell? ⟨w.heap.size, 0, none⟩ = some (.int .i64 p1) ∧ w'.cell? ⟨w.heap.size, 1, none⟩ = some (.int .i64 p2) ∧ w'.cell? ⟨w.heap.size + 1, 0, none⟩ = some (.int .i64 q1) ∧ w'.cell? ⟨w.heap.size + 1, 1, none⟩ = some (.int .i64 q2)) (first | exact HS.out _ hG | exact HS.out _ hG.drew | exact HS.out _ (hG.drew.alloc _) | exact HS.out _ (hG.alloc _)) (first
    | (go_at_call 36; go_must (refine (C1.out _).mono ?_; rintro e w' ⟨rfl, rfl⟩))
    | (go_at_call 37; go_must (refine (C2.out _).mono ?_; rintro e w' ⟨rfl, rfl⟩))
    | (go_at_call 35; go_must (refine C3.out.mono ?_; rintro e w' ⟨rfl, rfl⟩)))
  go_wp2
  go_ret
  exact ⟨rfl, (HG.out.alloc _).drew⟩

set_option maxRecDepth 100000 in
set_option maxHeartbeats 1000000 in
theorem less_any (p q : Pr) (w : World) : Calls Try.prog 30 #[.agg #[.int .i64 p.1, .int .i64 p.2], .agg #[.int .i64 q.1, .int .i64 q.2]] w fun e w' => e = .returned (.bool (ltP p q)) ∧ Grew w w' := by
  have C1 := Lib.hid fun W => compare_any p q W
  rw [← cmpP_lt]
  obtain ⟨p1, p2⟩ := p
  obtain ⟨q1, q2⟩ := q
  dsimp only at C1
  generalize cmpP (p1, p2) (q1, q2) = x at C1 ⊢
  have hA := (Row.new w 25 #[.int .i64 p1, .int .i64 p2]).alloc (.cells #[.int .i64 q1, .int .i64 q2] 25)
  have hB := Row.new (w.alloc (.cells #[.int .i64 p1, .int .i64 p2] 25)) 25 #[.int .i64 q1, .int .i64 q2]
  rw [show (w.alloc (.cells #[.int .i64 p1, .int .i64 p2] 25)).heap.size = w.heap.size + 1 by simp] at hB
  have HG := Lib.hid (((Grew.refl w).alloc (.cells #[.int .i64 p1, .int .i64 p2] 25)).alloc (.cells #[.int .i64 q1, .int .i64 q2] 25))
  go_enter Try.func30, Try.ntmps30
  go_upto_region 1 with fail
  generalize ((w.alloc (.cells #[.int .i64 p1, .int .i64 p2] 25)).alloc (.cells #[.int .i64 q1, .int .i64 q2] 25)) = W0 at *
  have a0 := hA.cell 0; have a1 := hA.cell 1; have b0 := hB.cell 0; have b1 := hB.cell 1
  simp only [List.getElem?_toArray, List.getElem?_cons_zero, List.getElem?_cons_succ] at a0 a1 b0 b1
  clear hA hB
  go_wp2_with fail
  refine (C1.out _).mono ?_
  rintro e W1 ⟨rfl, hG⟩
  go_wp2
  go_ret
  exact ⟨rfl, HG.out.trans hG⟩

set_option maxRecDepth 100000 in
set_option maxHeartbeats 1000000 in
theorem rless_any (p q : Pr) (w : World) : Calls Try.prog 21 #[.agg #[.int .i64 p.1, .int .i64 p.2], .agg #[.int .i64 q.1, .int .i64 q.2]] w fun e w' => e = .returned (.bool (ltP p q)) ∧ Grew w w' := by
  obtain ⟨p1, p2⟩ := p
  obtain ⟨q1, q2⟩ := q
  dsimp only
  obtain ⟨bb, hbb⟩ : ∃ b, b = ltP (p1, p2) (q1, q2) := ⟨_, rfl⟩
  rw [← hbb]
  have HBB := Lib.hid hbb
  clear hbb
  have hA := (Row.new w 25 #[.int .i64 p1, .int .i64 p2]).alloc (.cells #[.int .i64 q1, .int .i64 q2] 25)
  have hB := Row.new (w.alloc (.cells #[.int .i64 p1, .int .i64 p2] 25)) 25 #[.int .i64 q1, .int .i64 q2]
  rw [show (w.alloc (.cells #[.int .i64 p1, .int .i64 p2] 25)).heap.size = w.heap.size + 1 by simp] at hB
  have HG := Lib.hid (((Grew.refl w).alloc (.cells #[.int .i64 p1, .int .i64 p2] 25)).alloc (.cells #[.int .i64 q1, .int .i64 q2] 25))
  by_cases he : p1 = q1
  · have e1 : (p1 != q1) = false := by simp [he]
    have HE := Lib.hid he
    clear he
    go_enter Try.func21, Try.ntmps21
    go_upto_region 1 with fail
    generalize ((w.alloc (.cells #[.int .i64 p1, .int .i64 p2] 25)).alloc (.cells #[.int .i64 q1, .int .i64 q2] 25)) = W0 at *
    have a0 := hA.cell 0; have a1 := hA.cell 1; have b0 := hB.cell 0; have b1 := hB.cell 1
    simp only [List.getElem?_toArray, List.getElem?_cons_zero, List.getElem?_cons_succ] at a0 a1 b0 b1
    clear hA hB
    go_wp2
    go_ret
    refine ⟨?_, HG.out⟩
    rw [HBB.out]
    have h1 := HE.out
    simp [ltP, h1]
  · have e1 : (p1 != q1) = true := by simp [he]
    have HE := Lib.hid he
    clear he
    go_enter Try.func21, Try.ntmps21
    go_upto_region 1 with fail
    generalize ((w.alloc (.cells #[.int .i64 p1, .int .i64 p2] 25)).alloc (.cells #[.int .i64 q1, .int .i64 q2] 25)) = W0 at *
    have a0 := hA.cell 0; have a1 := hA.cell 1; have b0 := hB.cell 0; have b1 := hB.cell 1
    simp only [List.getElem?_toArray, List.getElem?_cons_zero, List.getElem?_cons_succ] at a0 a1 b0 b1
    clear hA hB
    go_wp2
    go_ret
    refine ⟨?_, HG.out⟩
    rw [HBB.out]
    have h1 := HE.out
    simp [ltP, h1]

theorem eq_pr (p q : Pr) (w : World) : (binOp .eql 25 (.agg #[.int .i64 p.1, .int .i64 p.2]) (.agg #[.int .i64 q.1, .int .i64 q.2])).run Try.prog w = .ok (.bool (decide (p = q))) w := by
  have u3 := Try.underlying3
  have a3 := Try.isAgg3
  have z3 := Try.sizeOf3
  have u23 := Try.underlying23
  have a23 := Try.isAgg23
  have z23 := Try.sizeOf23
  have hS : Try.prog.underlying 25 = some (.struct (Try.prog.fieldsOf 25)) := by kernel_rfl
  have hp : Try.prog.stoodInHeld 25 = false := by kernel_rfl
  rw [run_eql_struct, show (10000 : Nat) = 9999 + 1 from rfl, run_equalIn_agg w 9999 25 _ _ hS hp]
  simp only [Program.fieldsOf, Try.underlying25]
  obtain ⟨p1, p2⟩ := p
  obtain ⟨q1, q2⟩ := q
  go_simp
  by_cases h1 : p1 = q1 <;> by_cases h2 : p2 = q2 <;> simp [h1, h2]

theorem neq_pr (p q : Pr) (w : World) : (binOp .neq 25 (.agg #[.int .i64 p.1, .int .i64 p.2]) (.agg #[.int .i64 q.1, .int .i64 q.2])).run Try.prog w = .ok (.bool (!decide (p = q))) w := by
  have u3 := Try.underlying3
  have a3 := Try.isAgg3
  have z3 := Try.sizeOf3
  have u23 := Try.underlying23
  have a23 := Try.isAgg23
  have z23 := Try.sizeOf23
  have hS : Try.prog.underlying 25 = some (.struct (Try.prog.fieldsOf 25)) := by kernel_rfl
  have hp : Try.prog.stoodInHeld 25 = false := by kernel_rfl
  rw [run_neq_struct, show (10000 : Nat) = 9999 + 1 from rfl, run_equalIn_agg w 9999 25 _ _ hS hp]
  simp only [Program.fieldsOf, Try.underlying25]
  obtain ⟨p1, p2⟩ := p
  obtain ⟨q1, q2⟩ := q
  go_simp
  by_cases h1 : p1 = q1 <;> by_cases h2 : p2 = q2 <;> simp [h1, h2]

theorem guard_pr : Try.prog.eqGuardType Try.prog.depth 25 = false := by kernel_rfl

set_option maxRecDepth 100000 in
set_option maxHeartbeats 1000000 in
theorem rhas_any (B : Nat) (A : Option Addr) (l : List Pr) (c : Nat) (p : Pr) (w : World) (hs : Sees w B A (prs l)) (hB : B ≤ w.heap.size) (hm : l.length ≤ maxLen) :
    Calls Try.prog 27 #[.slice A l.length c, .agg #[.int .i64 p.1, .int .i64 p.2]] w fun e w' => e = .returned (.bool (hasP l p)) ∧ Grew w w' := by
  unfold maxLen at hm
  have hG := guard_pr
  have hA := (Row.new w 25 #[.int .i64 p.1, .int .i64 p.2])
  have HG := Lib.hid ((Grew.refl w).alloc (.cells #[.int .i64 p.1, .int .i64 p.2] 25))
  have hs1 := hs.alloc hB (.cells #[.int .i64 p.1, .int .i64 p.2] 25)
  clear hs
  go_enter Try.func27, Try.ntmps27
  go_upto_region 1 with fail
  generalize (w.alloc (.cells #[.int .i64 p.1, .int .i64 p.2] 25)) = W0 at *
  have a0 := hA.cell 0; have a1 := hA.cell 1
  simp only [List.getElem?_toArray, List.getElem?_cons_zero, List.getElem?_cons_succ] at a0 a1
  clear hA
  go_wp2
  go_loopw [5] (fun i wr => ∃ k n : Nat, k ≤ l.length ∧ i = .int .i64 k ∧ Hid (p ∉ l.take k) ∧ wr = W0.drewN n) (fun i _ => l.length - (intOf i).toNat)
  case atStart => exact ⟨0, 0, Nat.zero_le _, rfl, by simp [Hid], rfl⟩
  case round =>
    obtain ⟨k, n, hk, rfl, HT, rfl⟩ := hrel
    by_cases hlt : k < l.length
    · obtain ⟨b, o, rfl, _, hc0, hc1⟩ := sees_pair hs1 hlt
      have hq : ∀ W, (binOp .eql 25 (.agg #[.int .i64 l[k].1, .int .i64 l[k].2]) (.agg #[.int .i64 p.1, .int .i64 p.2])).run Try.prog W = .ok (.bool (decide (l[k] = p))) W := fun W => eq_pr _ _ W
      by_cases hxy : l[k] = p
      · have HE := Lib.hid (show hasP l p = true by simp [hasP, ← hxy])
        rw [decide_eq_true hxy] at hq
        clear hs1 HT hxy
        generalize l[k].1 = x1 at *
        generalize l[k].2 = x2 at *
        go_wp2
        go_quiet (fail)
        go_wp2
        go_ret
        rw [HE.out]
        exact ⟨rfl, (HG.out.drewN _).drewN _⟩
      · have HT' := Lib.hid (show p ∉ l.take (k + 1) from fun h => ((mem_take_succ hlt).1 h).elim HT.out fun e => hxy e.symm)
        rw [decide_eq_false hxy] at hq
        clear hs1 HT hxy
        generalize l[k].1 = x1 at *
        generalize l[k].2 = x2 at *
        go_wp2
        go_quiet (fail)
        go_wp2
        go_roundw
        case rel => exact ⟨k + 1, _, by omega, by go_num, HT'.out, rfl⟩
        case measure => simp [intOf]; omega
    · have HE := Lib.hid (show hasP l p = false by have := HT.out; rw [List.take_of_length_le (by omega)] at this; simp [hasP, this])
      clear HT hs1
      go_wp2
      go_ret
      rw [HE.out]
      exact ⟨rfl, HG.out.drewN _⟩

end Go.Proofs.Ytacendjemomkfaa
