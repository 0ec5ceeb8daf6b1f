/-
  The program's Entry and Implies of layer 15.
-/
import Derived.Test.YtcoehkphdfejjaaGreatEdInv
namespace Go.Proofs.YtcoehkphdfejjaaGreat
open Go.RowKit
set_option linter.unusedVariables false

/-- What Entry returns. -/
def entR : Option Pr → Value
  | none => .tuple #[.agg #[.int .i64 0, .int .i64 0], .int .i64 0]
  | some p => .tuple #[.agg #[.int .i64 p.1, .int .i64 p.2], .int .i64 23]

/-- What Implies returns. -/
def impR : Option Pr → Value
  | none => .tuple #[.agg #[.int .i64 0, .int .i64 0], .int .i64 0]
  | some p => .tuple #[.agg #[.int .i64 p.1, .int .i64 p.2], .int .i64 22]

set_option maxRecDepth 100000 in
set_option maxHeartbeats 4000000 in
theorem pentry_any (B : Nat) (A : Option Addr) (l : List Pr) (c : Nat) (a : Int) (w : World) (hs : Sees w B A (prs l)) (hB : B ≤ w.heap.size) (hm : l.length ≤ 1000) (hw : ∀ p ∈ l, PrWf p) (h0 : ∀ p ∈ l, 0 ≤ p.1 ∧ 0 ≤ p.2) :
    Calls Tryz.prog 46 #[.slice A l.length c, .int .i64 a] w fun e w' => e = .returned (entR (entP l a)) ∧ Below w.heap.size w w' := by
  have hR := Row.new w 89 #[.int .i64 0, .int .i64 0]
  have HWB := Lib.hid ((Below.refl w.heap.size w).alloc (Nat.le_refl _) (prObj 0 0))
  have hs1 := hs.alloc hB (prObj 0 0)
  have HPW := Lib.hid hw
  have HP0 := Lib.hid h0
  clear hs hw h0
  go_enter Tryz.func46, Tryz.ntmps46
  go_upto_region 1 with fail
  have hB1 : B ≤ (w.alloc (prObj 0 0)).heap.size := by simp; omega
  have HSZ := Lib.hid (show w.heap.size ≤ (w.alloc (prObj 0 0)).heap.size by simp)
  generalize (w.alloc (.cells #[.int .i64 0, .int .i64 0] 89)) = W0 at *
  have HR := Lib.hid hR
  have HS := Lib.hid hs1
  clear hR hs1
  go_wp2
  go_loopg [10] l.length (fun g v10 wr => ∃ k : Nat, k + g = l.length ∧ v10 = .int .i64 k ∧ Hid (∀ x ∈ l.take k, initP x a = true) ∧ Hid (Grew W0 wr))
  case atStart => exact ⟨0, by omega, by go_num, fun x hx => by simp at hx, Grew.refl W0⟩
  case round =>
    obtain ⟨k, hg, rfl, HT, HW⟩ := hrel
    by_cases hlt : k < l.length
    · obtain ⟨b1, o1, rfl, hb, hc0, hc1⟩ := sees_pair HS.out hlt
      have f0 := HW.out.cell hc0
      have f1 := HW.out.cell hc1
      have hx0 := HP0.out _ (List.getElem_mem hlt)
      obtain ⟨hw1, hw2⟩ := HPW.out _ (List.getElem_mem hlt)
      have hw1 := i64_of_wf hw1
      have hw2 := i64_of_wf hw2
      have C2 := Lib.hid fun W => pinit_any l[k].1 l[k].2 a W hx0.1 hx0.2 (by omega) (by omega)
      have HN : Hid (initP l[k] a = false → entP l a = some l[k]) := fun h => entP_take hlt HT.out h
      have HY : Hid (initP l[k] a = true → ∀ x ∈ l.take (k + 1), initP x a = true) := fun h x hx => ((mem_take_succ hlt).1 hx).elim (HT.out x) fun e => by subst e; exact h
      have hkz : (k : Int) < (l.length : Int) := by omega
      generalize l[k] = x at *
      obtain ⟨x1, x2⟩ := x
      dsimp only at *
      generalize initP (x1, x2) a = bb at *
      clear hc0 hc1 hw1 hw2 hx0 HT
      go_upto_region 4 with fail
      have hpr := Row.new wr 89 #[.int .i64 x1, .int .i64 x2]
      have HGA := Lib.hid (HW.out.alloc (prObj x1 x2))
      clear f0 f1
      generalize (wr.alloc (.cells #[.int .i64 x1, .int .i64 x2] 89)) = W1 at *
      generalize wr.heap.size = pb at *
      have c0 := hpr.cell 0
      have c1 := hpr.cell 1
      simp only [List.getElem?_toArray, List.getElem?_cons_zero, List.getElem?_cons_succ] at c0 c1
      clear hpr HW
      go_wp2_with fail
      refine (C2.out _).mono ?_
      rintro e W2 ⟨rfl, hG2⟩
      have c0' := hG2.cell c0
      have c1' := hG2.cell c1
      have HG2 := Lib.hid (HGA.out.trans hG2)
      clear c0 c1 hG2 HGA C2
      cases bb
      · have HM := Lib.hid (HN.out rfl)
        have hR1 := HG2.out.row HR.out
        have r0 := hR1.cell 0
        have r1 := hR1.cell 1
        have q0 := hR1.frozen 0
        have q1 := hR1.frozen 1
        simp only [List.getElem?_toArray, List.getElem?_cons_zero, List.getElem?_cons_succ] at r0 r1
        clear hR1
        go_wp2
        (try simp only [Exit.inBlock, Exit.then])
        refine bodyPost_ret (v := .tuple #[.agg #[.int .i64 x1, .int .i64 x2], .int .i64 23]) ?_ rfl ⟨?_, ?_⟩
        · rw [results_cell_tmp rfl]
          go_simp
        · rw [HM.out]
          rfl
        · exact (((HWB.out.trans (HG2.out.below.mono HSZ.out)).setCell (p := ⟨w.heap.size, 0, none⟩) (Nat.le_refl _) _).setCell (p := ⟨w.heap.size, 1, none⟩) (Nat.le_refl _) _)
      · have HT2 := Lib.hid (HY.out rfl)
        go_wp2
        go_roundg (l.length - (k + 1))
        case measure => omega
        case rel => exact ⟨k + 1, by omega, by go_num, HT2.out, HG2.out⟩
    · have HM : Hid (entP l a = none) := entP_none.2 (by have := HT.out; rw [List.take_of_length_le (by omega)] at this; exact this)
      have hkz : ¬ (k : Int) < (l.length : Int) := by omega
      have hR := HW.out.row HR.out
      have r0 := hR.cell 0
      have r1 := hR.cell 1
      have q0 := hR.frozen 0
      have q1 := hR.frozen 1
      simp only [List.getElem?_toArray, List.getElem?_cons_zero, List.getElem?_cons_succ] at r0 r1
      clear hR
      go_wp2
      (try simp only [Exit.inBlock, Exit.then])
      refine bodyPost_ret (v := .tuple #[.agg #[.int .i64 0, .int .i64 0], .int .i64 0]) ?_ rfl ⟨?_, ?_⟩
      · rw [results_cell_tmp rfl]
        go_simp
      · rw [HM.out]
        rfl
      · exact (((HWB.out.trans (HW.out.below.mono HSZ.out)).setCell (p := ⟨w.heap.size, 0, none⟩) (Nat.le_refl _) _).setCell (p := ⟨w.heap.size, 1, none⟩) (Nat.le_refl _) _)

theorem pentry_ls {w : World} {A : Option Addr} {n c : Nat} {l : List Pr} (a : Int) (h : LS w A n c l) (hw : ∀ p ∈ l, PrWf p) (h0 : ∀ p ∈ l, 0 ≤ p.1 ∧ 0 ≤ p.2) :
    Calls Tryz.prog 46 #[.slice A n c, .int .i64 a] w fun e w' => e = .returned (entR (entP l a)) ∧ Below w.heap.size w w' := by
  obtain ⟨rfl, _, _, h4, h5⟩ := id h
  exact pentry_any w.heap.size A l c a w h4 (Nat.le_refl _) h5 hw h0

set_option maxRecDepth 100000 in
set_option maxHeartbeats 4000000 in
theorem pimplies_ls {w : World} {A A' : Option Addr} {n m c c' : Nat} {l r : List Pr} (h : LS w A n c l) (k : LS w A' m c' r) (hl : Srt l) (hr : Srt r) :
    Calls Tryz.prog 49 #[.slice A n c, .slice A' m c'] w fun e w' => e = .returned (impR (misP r l)) ∧ Below w.heap.size w w' := by
  have hR := Row.new w 89 #[.int .i64 0, .int .i64 0]
  have hb := (Below.refl w.heap.size w).alloc (Nat.le_refl _) (prObj 0 0)
  have C := Lib.hid (pmissing_ls (k.below hb) (h.below hb) hr hl)
  have HWB := Lib.hid hb
  have HSZ := Lib.hid (show w.heap.size ≤ (w.alloc (prObj 0 0)).heap.size by simp)
  have hlt := hR.lt
  clear hb h k hl hr
  have HI : Hid (mres (misP r l) = mres (misP r l)) := rfl
  clear HI
  obtain ⟨o, ho⟩ : ∃ z, z = misP r l := ⟨_, rfl⟩
  rw [← ho] at C ⊢
  clear ho
  go_enter Tryz.func49, Tryz.ntmps49
  go_upto_region 1 with fail
  generalize (w.alloc (.cells #[.int .i64 0, .int .i64 0] 89)) = W0 at *
  rcases o with _ | ⟨x1, x2⟩
  · dsimp only [mres] at C
    go_wp2_with fail
    refine C.out.mono ?_
    rintro e W1 ⟨rfl, hb⟩
    have HB1 := Lib.hid (HWB.out.trans (hb.mono HSZ.out))
    have hR1 := (hR.below hb hlt).alloc (prObj 0 0)
    have r0 := (hR.below hb hlt).cell 0
    have r1 := (hR.below hb hlt).cell 1
    have q0 := (hR.below hb hlt).frozen 0
    have q1 := (hR.below hb hlt).frozen 1
    simp only [List.getElem?_toArray, List.getElem?_cons_zero, List.getElem?_cons_succ] at r0 r1
    have hz : w.heap.size < W1.heap.size := Nat.lt_of_lt_of_le hlt hb.size
    clear hR hR1 hb C
    go_wp2
    (try simp only [Exit.inBlock, Exit.then])
    refine bodyPost_ret (v := .tuple #[.agg #[.int .i64 0, .int .i64 0], .int .i64 0]) ?_ rfl ⟨rfl, ?_⟩
    · rw [results_cell_tmp rfl]
      go_simp
    · have hb9 := (HB1.out.setCell (p := ⟨w.heap.size, 0, none⟩) (Nat.le_refl _) (.int .i64 0)).setCell (p := ⟨w.heap.size, 1, none⟩) (Nat.le_refl _) (.int .i64 0)
      exact hb9.alloc hb9.size _
  · dsimp only [mres] at C
    go_wp2_with fail
    refine C.out.mono ?_
    rintro e W1 ⟨rfl, hb⟩
    have HB1 := Lib.hid (HWB.out.trans (hb.mono HSZ.out))
    have r0 := (hR.below hb hlt).cell 0
    have r1 := (hR.below hb hlt).cell 1
    have q0 := (hR.below hb hlt).frozen 0
    have q1 := (hR.below hb hlt).frozen 1
    simp only [List.getElem?_toArray, List.getElem?_cons_zero, List.getElem?_cons_succ] at r0 r1
    have hz : w.heap.size < W1.heap.size := Nat.lt_of_lt_of_le hlt hb.size
    clear hR hb C
    go_wp2
    (try simp only [Exit.inBlock, Exit.then])
    refine bodyPost_ret (v := .tuple #[.agg #[.int .i64 x1, .int .i64 x2], .int .i64 22]) ?_ rfl ⟨rfl, ?_⟩
    · rw [results_cell_tmp rfl]
      go_simp
    · have hb9 := (HB1.out.setCell (p := ⟨w.heap.size, 0, none⟩) (Nat.le_refl _) (.int .i64 x1)).setCell (p := ⟨w.heap.size, 1, none⟩) (Nat.le_refl _) (.int .i64 x2)
      exact hb9.alloc hb9.size _

end Go.Proofs.YtcoehkphdfejjaaGreat
