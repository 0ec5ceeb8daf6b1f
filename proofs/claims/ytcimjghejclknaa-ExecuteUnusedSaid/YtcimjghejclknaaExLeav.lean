/-
  The program's leave.
-/
import Derived.Test.YtcimjghejclknaaExPerf
namespace Go.Proofs.Ytcimjghejclknaa
open Go.RowKit
set_option linter.unusedVariables false
set_option linter.unusedSimpArgs false

/-- What leave carries: the run and the terminator's box. -/
structure XT (w0 : World) (t : Tm) (lo q : Nat) (T : TypeId) (ex : List Value) (RA : Option Addr) (rc : Nat) (SA : Option Addr) (sc : Nat) (TA : Option Addr) (tc : Nat) (r : Xn) (W : World) : Prop where
  xp : Xp W lo q T ex RA rc SA sc TA tc r
  below : Below lo w0 W
  bx : Row W w0.heap.size 48 #[.int .i64 t.kind, .int .i64 t.a, .int .i64 t.to, .int .i64 t.el]

set_option maxRecDepth 100000 in
set_option maxHeartbeats 4000000 in
theorem xleave_any (t : Tm) (r : Xn) (nb lo q : Nat) (ex : List Value) (RA SA TA : Option Addr) (rc sc tc : Nat) (w : World) (hI : Xp w lo q exT ex RA rc SA sc TA tc r) (hok : TmOk r.regs.length nb t) (hst : r.steps ≤ 1000000) (hrl : r.regs.length ≤ 1000000) :
    Calls Try.prog 36 #[.pointer (some ⟨q, 0, none⟩), .agg #[.int .i64 t.kind, .int .i64 t.a, .int .i64 t.to, .int .i64 t.el]] w fun e w' => e = .returned (.tuple #[]) ∧ XpP w lo q exT ex (xleav t r) w' := by
  have hbl0 := (Below.refl w.heap.size w).alloc (Nat.le_refl _) (.cells #[.int .i64 t.kind, .int .i64 t.a, .int .i64 t.to, .int .i64 t.el] 48)
  have hqw : q < w.heap.size := hI.row.lt
  have hlq := hI.lt
  have hG : XT w t lo q exT ex RA rc SA sc TA tc r (w.alloc (.cells #[.int .i64 t.kind, .int .i64 t.a, .int .i64 t.to, .int .i64 t.el] 48)) := ⟨hI.next hbl0, hbl0.mono (by omega), Row.new _ _ _⟩
  obtain ⟨kind, ta, tt, el⟩ := t
  dsimp only at *
  clear hI hbl0
  rcases hok with ⟨hk, ht0, ht1⟩ | ⟨hk, ha0, ha1, ht0, ht1, he0, he1⟩ | ⟨hk, ha0, ha1⟩
  · dsimp only at hk ht0 ht1
    subst hk
    obtain ⟨tn, rfl⟩ := Int.eq_ofNat_of_zero_le ht0
    have HX : Hid (xleav ⟨1, ta, (tn : Int), el⟩ r = { r with blk := tn, pos := 0, steps := r.steps + 1 }) := by
      rw [Hid, xleav, if_neg (show ¬ (1 : Int) = 3 by decide)]
      simp
    clear ht0
    go_enter Try.func36, Try.ntmps36
    go_upto_region 1 with fail
    generalize w.alloc (.cells #[.int .i64 1, .int .i64 ta, .int .i64 (tn : Int), .int .i64 el] 48) = W0 at *
    have f7 := hG.xp.cells.2.2.2.2.2.2.2; have b0 := hG.bx.cell 0; have r7 := hG.xp.row.frozen 7
    simp only [List.getElem?_toArray, List.getElem?_cons_zero, List.getElem?_cons_succ] at b0
    have hG1 := hG.xp.pSteps (r.steps + 1)
    have hB1 := blwq hG.below hlq 7 (.int .i64 ((r.steps + 1 : Nat) : Int))
    have hX1 := hG.bx.far (q := ⟨q, 7, none⟩) (by show w.heap.size ≠ q; omega) (.int .i64 ((r.steps + 1 : Nat) : Int))
    have HG0 := Lib.hid (show XT w ⟨1, ta, (tn : Int), el⟩ lo q exT ex RA rc SA sc TA tc { r with steps := r.steps + 1 } (W0.setCell ⟨q, 7, none⟩ (.int .i64 ((r.steps : Int) + 1))) from ⟨hG1, hB1, hX1⟩)
    clear hG hG1 hB1 hX1
    go_upto_region 3 with fail
    clear f7 r7 b0
    generalize W0.setCell ⟨q, 7, none⟩ (.int .i64 ((r.steps : Int) + 1)) = W1 at *
    obtain ⟨f0, f1, f2, f3, f4, _, _, _⟩ := HG0.out.xp.cells
    have r0 := HG0.out.xp.row.frozen 0; have r1 := HG0.out.xp.row.frozen 1; have r2 := HG0.out.xp.row.frozen 2; have r3 := HG0.out.xp.row.frozen 3
    have b0 := HG0.out.bx.cell 0; have b1 := HG0.out.bx.cell 1; have b2 := HG0.out.bx.cell 2; have b3 := HG0.out.bx.cell 3
    simp only [List.getElem?_toArray, List.getElem?_cons_zero, List.getElem?_cons_succ] at b0 b1 b2 b3
    dsimp only at f0 f1 f2 f3 f4
    have hq1 : q < W1.heap.size := HG0.out.xp.row.lt
    have hne : ¬ w.heap.size = q := by omega
    go_wp2
    go_end0
    rw [HX.out]
    exact ⟨rfl, _, _, _, _, _, _, (HG0.out.xp.pBlk tn).pPos 0, blwq (blwq HG0.out.below hlq 1 _) hlq 2 _⟩
  · dsimp only at hk ha0 ha1 ht0 ht1 he0 he1
    subst hk
    obtain ⟨a, rfl⟩ := Int.eq_ofNat_of_zero_le ha0
    obtain ⟨tn, rfl⟩ := Int.eq_ofNat_of_zero_le ht0
    obtain ⟨en, rfl⟩ := Int.eq_ofNat_of_zero_le he0
    have han : a < r.regs.length := by omega
    have HX : Hid (xleav ⟨2, (a : Int), (tn : Int), (en : Int)⟩ r = { r with blk := if rg r.regs (a : Int) = 0 then en else tn, pos := 0, steps := r.steps + 1 }) := by
      rw [Hid, xleav, if_neg (show ¬ (2 : Int) = 3 by decide)]
      simp
    obtain ⟨g, rfl, _⟩ := regs_at hG.xp.v.regs han
    have HRC := Lib.hid fun W (h : Xp W lo q exT ex (some ⟨g, 0, none⟩) rc SA sc TA tc { r with steps := r.steps + 1 }) => h.v.regc han
    dsimp only at HRC
    have C1 := Lib.hid fun W h => register_any a q g r.regs.length rc W h han hrl
    generalize rg r.regs (a : Int) = x at *
    clear ht0 ht1 ha0 ha1 he0 he1
    go_enter Try.func36, Try.ntmps36
    go_upto_region 1 with fail
    generalize w.alloc (.cells #[.int .i64 2, .int .i64 (a : Int), .int .i64 (tn : Int), .int .i64 (en : Int)] 48) = W0 at *
    have hgw : g < W0.heap.size := (ownS_lt hG.xp.v.regs g rfl).2
    have f7 := hG.xp.cells.2.2.2.2.2.2.2; have b0 := hG.bx.cell 0; have r7 := hG.xp.row.frozen 7
    simp only [List.getElem?_toArray, List.getElem?_cons_zero, List.getElem?_cons_succ] at b0
    have hG1 := hG.xp.pSteps (r.steps + 1)
    have hB1 := blwq hG.below hlq 7 (.int .i64 ((r.steps + 1 : Nat) : Int))
    have hX1 := hG.bx.far (q := ⟨q, 7, none⟩) (by show w.heap.size ≠ q; omega) (.int .i64 ((r.steps + 1 : Nat) : Int))
    have HG0 := Lib.hid (show XT w ⟨2, (a : Int), (tn : Int), (en : Int)⟩ lo q exT ex (some ⟨g, 0, none⟩) rc SA sc TA tc { r with steps := r.steps + 1 } (W0.setCell ⟨q, 7, none⟩ (.int .i64 ((r.steps : Int) + 1))) from ⟨hG1, hB1, hX1⟩)
    clear hG hG1 hB1 hX1
    go_upto_region 3 with fail
    clear f7 r7 b0
    generalize W0.setCell ⟨q, 7, none⟩ (.int .i64 ((r.steps : Int) + 1)) = W1 at *
    obtain ⟨f0, f1, f2, f3, f4, _, _, _⟩ := HG0.out.xp.cells
    have r0 := HG0.out.xp.row.frozen 0; have r1 := HG0.out.xp.row.frozen 1; have r2 := HG0.out.xp.row.frozen 2; have r3 := HG0.out.xp.row.frozen 3
    have b0 := HG0.out.bx.cell 0; have b1 := HG0.out.bx.cell 1; have b2 := HG0.out.bx.cell 2; have b3 := HG0.out.bx.cell 3
    simp only [List.getElem?_toArray, List.getElem?_cons_zero, List.getElem?_cons_succ] at b0 b1 b2 b3
    dsimp only at f0 f1 f2 f3 f4
    have hq1 : q < W1.heap.size := HG0.out.xp.row.lt
    have hne : ¬ w.heap.size = q := by omega
    have hgc := HRC.out _ HG0.out.xp
    clear HRC
    go_wp2_with fail
    refine (C1.out _ f4).mono ?_
    rintro e W2 ⟨rfl, n, rfl⟩
    by_cases hx : x = 0
    · subst hx
      rw [Hid, if_pos rfl] at HX
      have HX3 := Lib.hid HX
      clear HX C1
      go_wp2
      go_end0
      rw [HX3.out]
      exact ⟨rfl, _, _, _, _, _, _, ((HG0.out.xp.drewN n).pBlk en).pPos 0, blwq (blwq (blw_drewN HG0.out.below n) hlq 1 _) hlq 2 _⟩
    · have hx0 : (x == 0) = false := by simp [hx]
      rw [Hid, if_neg hx] at HX
      have HX3 := Lib.hid HX
      clear HX C1 hx
      go_wp2
      go_end0
      rw [HX3.out]
      exact ⟨rfl, _, _, _, _, _, _, ((HG0.out.xp.drewN n).pBlk tn).pPos 0, blwq (blwq (blw_drewN HG0.out.below n) hlq 1 _) hlq 2 _⟩
  · dsimp only at hk ha0 ha1
    subst hk
    obtain ⟨a, rfl⟩ := Int.eq_ofNat_of_zero_le ha0
    have han : a < r.regs.length := by omega
    have HX : Hid (xleav ⟨3, (a : Int), tt, el⟩ r = { r with st := 1, val := rg r.regs (a : Int), steps := r.steps + 1 }) := by
      rw [Hid, xleav, if_pos rfl]
    obtain ⟨g, rfl, _⟩ := regs_at hG.xp.v.regs han
    have HRC := Lib.hid fun W (h : Xp W lo q exT ex (some ⟨g, 0, none⟩) rc SA sc TA tc { r with steps := r.steps + 1 }) => h.v.regc han
    dsimp only at HRC
    have C1 := Lib.hid fun W h => register_any a q g r.regs.length rc W h han hrl
    generalize rg r.regs (a : Int) = x at *
    clear ha0 ha1
    go_enter Try.func36, Try.ntmps36
    go_upto_region 1 with fail
    generalize w.alloc (.cells #[.int .i64 3, .int .i64 (a : Int), .int .i64 tt, .int .i64 el] 48) = W0 at *
    have hgw : g < W0.heap.size := (ownS_lt hG.xp.v.regs g rfl).2
    have f7 := hG.xp.cells.2.2.2.2.2.2.2; have b0 := hG.bx.cell 0; have r7 := hG.xp.row.frozen 7
    simp only [List.getElem?_toArray, List.getElem?_cons_zero, List.getElem?_cons_succ] at b0
    have hG1 := hG.xp.pSteps (r.steps + 1)
    have hB1 := blwq hG.below hlq 7 (.int .i64 ((r.steps + 1 : Nat) : Int))
    have hX1 := hG.bx.far (q := ⟨q, 7, none⟩) (by show w.heap.size ≠ q; omega) (.int .i64 ((r.steps + 1 : Nat) : Int))
    have HG0 := Lib.hid (show XT w ⟨3, (a : Int), tt, el⟩ lo q exT ex (some ⟨g, 0, none⟩) rc SA sc TA tc { r with steps := r.steps + 1 } (W0.setCell ⟨q, 7, none⟩ (.int .i64 ((r.steps : Int) + 1))) from ⟨hG1, hB1, hX1⟩)
    clear hG hG1 hB1 hX1
    go_upto_region 3 with fail
    clear f7 r7 b0
    generalize W0.setCell ⟨q, 7, none⟩ (.int .i64 ((r.steps : Int) + 1)) = W1 at *
    obtain ⟨f0, f1, f2, f3, f4, _, _, _⟩ := HG0.out.xp.cells
    have r0 := HG0.out.xp.row.frozen 0; have r1 := HG0.out.xp.row.frozen 1; have r2 := HG0.out.xp.row.frozen 2; have r3 := HG0.out.xp.row.frozen 3
    have b0 := HG0.out.bx.cell 0; have b1 := HG0.out.bx.cell 1; have b2 := HG0.out.bx.cell 2; have b3 := HG0.out.bx.cell 3
    simp only [List.getElem?_toArray, List.getElem?_cons_zero, List.getElem?_cons_succ] at b0 b1 b2 b3
    dsimp only at f0 f1 f2 f3 f4
    have hq1 : q < W1.heap.size := HG0.out.xp.row.lt
    have hne : ¬ w.heap.size = q := by omega
    have hgc := HRC.out _ HG0.out.xp
    clear HRC
    go_wp2_with fail
    refine (C1.out _ f4).mono ?_
    rintro e W2 ⟨rfl, n, rfl⟩
    clear C1
    go_wp2
    go_end0
    rw [HX.out]
    exact ⟨rfl, _, _, _, _, _, _, ((HG0.out.xp.drewN n).pSt 1).pVal x, blwq (blwq (blw_drewN HG0.out.below n) hlq 0 _) hlq 3 _⟩

end Go.Proofs.Ytcimjghejclknaa
