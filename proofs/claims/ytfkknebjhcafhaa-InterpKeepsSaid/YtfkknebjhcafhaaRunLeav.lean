/-
  The program's leave.
-/
import Derived.Test.YtfkknebjhcafhaaRunPerf
namespace Go.Proofs.Ytfkknebjhcafhaa
open Go.RowKit
set_option linter.unusedVariables false

section
variable {w w' : World} {lo q : Nat} {RA SA TA BA : Option Addr} {rc sc tc bl bc : Nat} {r : Rn}
theorem blwq {B : Nat} {a W : World} (h : Below B a W) (hq : B ≤ q) (i : Nat) (u : Value) : Below B a (W.setCell ⟨q, i, none⟩ u) := h.setCell (p := ⟨q, i, none⟩) hq u
theorem Ip.pSt (h : Ip w lo q RA rc SA sc TA tc BA bl bc r) (s : Int) : Ip (w.setCell ⟨q, 0, none⟩ (.int .i64 s)) lo q RA rc SA sc TA tc BA bl bc { r with st := s } := ⟨h.row.put 0 _, ⟨(vput h 0 _).regs, (vput h 0 _).trace, h.v.ne⟩, h.lt⟩
theorem Ip.pBlk (h : Ip w lo q RA rc SA sc TA tc BA bl bc r) (k : Nat) : Ip (w.setCell ⟨q, 1, none⟩ (.int .i64 (k : Int))) lo q RA rc SA sc TA tc BA bl bc { r with blk := k } := ⟨h.row.put 1 _, ⟨(vput h 1 _).regs, (vput h 1 _).trace, h.v.ne⟩, h.lt⟩
theorem Ip.pPos (h : Ip w lo q RA rc SA sc TA tc BA bl bc r) (k : Nat) : Ip (w.setCell ⟨q, 2, none⟩ (.int .i64 (k : Int))) lo q RA rc SA sc TA tc BA bl bc { r with pos := k } := ⟨h.row.put 2 _, ⟨(vput h 2 _).regs, (vput h 2 _).trace, h.v.ne⟩, h.lt⟩
theorem Ip.pVal (h : Ip w lo q RA rc SA sc TA tc BA bl bc r) (v : Int) : Ip (w.setCell ⟨q, 3, none⟩ (.int .i64 v)) lo q RA rc SA sc TA tc BA bl bc { r with val := v } := ⟨h.row.put 3 _, ⟨(vput h 3 _).regs, (vput h 3 _).trace, h.v.ne⟩, h.lt⟩
theorem Ip.pSteps (h : Ip w lo q RA rc SA sc TA tc BA bl bc r) (k : Nat) : Ip (w.setCell ⟨q, 7, none⟩ (.int .i64 (k : Int))) lo q RA rc SA sc TA tc BA bl bc { r with steps := k } := ⟨h.row.put 7 _, ⟨(vput h 7 _).regs, (vput h 7 _).trace, h.v.ne⟩, h.lt⟩
/-- What leave carries: the interpreter and the terminator's box. -/
structure TW (w0 : World) (t : Tm) (lo q : Nat) (RA : Option Addr) (rc : Nat) (SA : Option Addr) (sc : Nat) (TA : Option Addr) (tc : Nat) (BA : Option Addr) (bl bc : Nat) (r : Rn) (W : World) : Prop where
  ip : Ip W lo q RA rc SA sc TA tc BA bl bc r
  below : Below lo w0 W
  bx : Row W w0.heap.size 44 #[.int .i64 t.kind, .int .i64 t.a, .int .i64 t.to, .int .i64 t.el]
theorem TW.next {w0 : World} {t : Tm} (hp : TW w0 t lo q RA rc SA sc TA tc BA bl bc r w) (hb : Below w.heap.size w w') : TW w0 t lo q RA rc SA sc TA tc BA bl bc r w' := ⟨hp.ip.next hb, hp.below.trans (hb.mono (by have := hp.ip.row.lt; have := hp.ip.lt; omega)), hp.bx.below hb hp.bx.lt⟩
end

set_option maxRecDepth 100000 in
set_option maxHeartbeats 1000000 in
theorem succ1_any (a b c : Int) (w : World) :
    Calls Try.prog 39 #[.agg #[.int .i64 1, .int .i64 a, .int .i64 b, .int .i64 c]] w fun e w' => ∃ g, e = .returned (.slice (some ⟨g, 0, none⟩) 1 1) ∧ w.heap.size ≤ g ∧ g < w'.heap.size ∧ w'.cell? ⟨g, 0, none⟩ = some (.int .i64 b) ∧ Below w.heap.size w w' := by
  have HB := Lib.hid ((Below.refl w.heap.size w).alloc (Nat.le_refl _) (.cells #[.int .i64 1, .int .i64 a, .int .i64 b, .int .i64 c] 44))
  go_enter Try.func39, Try.ntmps39
  go_wp2
  go_ret
  exact ⟨w.heap.size + 1, rfl, by omega, by simp, (Row.new' (p := w.heap.size + 1) (by simp) 3 #[.int .i64 b]).cell 0, HB.out.alloc HB.out.size _⟩
set_option maxRecDepth 100000 in
set_option maxHeartbeats 1000000 in
theorem succ2_any (a b c : Int) (w : World) :
    Calls Try.prog 39 #[.agg #[.int .i64 2, .int .i64 a, .int .i64 b, .int .i64 c]] w fun e w' => ∃ g, e = .returned (.slice (some ⟨g, 0, none⟩) 2 2) ∧ w.heap.size ≤ g ∧ g < w'.heap.size ∧ w'.cell? ⟨g, 0, none⟩ = some (.int .i64 b) ∧ w'.cell? ⟨g, 1, none⟩ = some (.int .i64 c) ∧ Below w.heap.size w w' := by
  have HB := Lib.hid ((Below.refl w.heap.size w).alloc (Nat.le_refl _) (.cells #[.int .i64 2, .int .i64 a, .int .i64 b, .int .i64 c] 44))
  go_enter Try.func39, Try.ntmps39
  go_wp2
  go_ret
  have hr := Row.new' (W := w.alloc (.cells #[.int .i64 2, .int .i64 a, .int .i64 b, .int .i64 c] 44)) (p := w.heap.size + 1) (by simp) 3 #[.int .i64 b, .int .i64 c]
  exact ⟨w.heap.size + 1, rfl, by omega, by simp, hr.cell 0, hr.cell 1, HB.out.alloc HB.out.size _⟩

set_option maxRecDepth 100000 in
set_option maxHeartbeats 4000000 in
theorem leave_any (t : Tm) (r : Rn) (nb lo q : Nat) (RA SA TA BA : Option Addr) (rc sc tc bl bc : Nat) (w : World) (hI : Ip w lo q RA rc SA sc TA tc BA bl bc r) (hok : TmOk r.regs.length nb t) (hst : r.steps ≤ 1000000) (hrl : r.regs.length ≤ 1000000) :
    Calls Try.prog 30 #[.pointer (some ⟨q, 0, none⟩), .agg #[.int .i64 t.kind, .int .i64 t.a, .int .i64 t.to, .int .i64 t.el]] w fun e w' => e = .returned (.tuple #[]) ∧ IpP w lo q SA sc BA bl bc (leav t r) w' := by
  have hbl0 := (Below.refl w.heap.size w).alloc (Nat.le_refl _) (.cells #[.int .i64 t.kind, .int .i64 t.a, .int .i64 t.to, .int .i64 t.el] 44)
  have hqw : q < w.heap.size := hI.row.lt
  have hlq := hI.lt
  have hG : TW w t lo q RA rc SA sc TA tc BA bl bc r (w.alloc (.cells #[.int .i64 t.kind, .int .i64 t.a, .int .i64 t.to, .int .i64 t.el] 44)) := ⟨hI.next hbl0, hbl0.mono (by omega), Row.new _ _ _⟩
  obtain ⟨kind, ta, tt, el⟩ := t
  obtain ⟨st, blk, pos, val, regs, tr, steps⟩ := r
  dsimp only at *
  clear hI hbl0
  rcases hok with ⟨hk, ht0, ht1⟩ | ⟨hk, ha0, ha1, ht0, ht1, he0, he1⟩ | ⟨hk, ha0, ha1⟩
  · dsimp only at hk ht0 ht1
    subst hk
    obtain ⟨tn, rfl⟩ := Int.eq_ofNat_of_zero_le ht0
    have HX : Hid (leav ⟨1, ta, (tn : Int), el⟩ ⟨st, blk, pos, val, regs, tr, steps⟩ = ⟨st, tn, 0, val, regs, tr, steps + 1⟩) := by
      rw [Hid, leav, if_neg (show ¬ (1 : Int) = 3 by decide)]
      simp
    clear ht0
    go_enter Try.func30, Try.ntmps30
    go_upto_region 1 with fail
    generalize w.alloc (.cells #[.int .i64 1, .int .i64 ta, .int .i64 (tn : Int), .int .i64 el] 44) = W0 at *
    have f7 := hG.ip.row.cell 7; have b0 := hG.bx.cell 0; have r7 := hG.ip.row.frozen 7
    simp only [List.getElem?_toArray, List.getElem?_cons_zero, List.getElem?_cons_succ] at f7 b0
    have hG1 := hG.ip.pSteps (steps + 1)
    have hB1 := blwq hG.below hlq 7 (.int .i64 ((steps + 1 : Nat) : Int))
    have hX1 := hG.bx.far (q := ⟨q, 7, none⟩) (by show w.heap.size ≠ q; omega) (.int .i64 ((steps + 1 : Nat) : Int))
    have HG0 := Lib.hid (show TW w ⟨1, ta, (tn : Int), el⟩ lo q RA rc SA sc TA tc BA bl bc ⟨st, blk, pos, val, regs, tr, steps + 1⟩ (W0.setCell ⟨q, 7, none⟩ (.int .i64 ((steps : Int) + 1))) from ⟨hG1, hB1, hX1⟩)
    clear hG hG1 hB1 hX1
    go_upto_region 4 with fail
    clear f7 r7 b0
    generalize W0.setCell ⟨q, 7, none⟩ (.int .i64 ((steps : Int) + 1)) = W1 at *
    have b0 := HG0.out.bx.cell 0; have b1 := HG0.out.bx.cell 1; have b2 := HG0.out.bx.cell 2; have b3 := HG0.out.bx.cell 3
    simp only [List.getElem?_toArray, List.getElem?_cons_zero, List.getElem?_cons_succ] at b0 b1 b2 b3
    have hq1 : q < W1.heap.size := HG0.out.ip.row.lt
    go_wp2_with fail
    refine (succ1_any _ _ _ _).mono ?_
    rintro e W2 ⟨g, rfl, hg0, hg1, hgc, hb2⟩
    have HG2 := Lib.hid (HG0.out.next hb2)
    have f1 := HG2.out.ip.row.cell 1; have f2 := HG2.out.ip.row.cell 2; have r1 := HG2.out.ip.row.frozen 1; have r2 := HG2.out.ip.row.frozen 2
    have e0 := HG2.out.bx.cell 0
    simp only [List.getElem?_toArray, List.getElem?_cons_zero, List.getElem?_cons_succ] at f1 f2 e0
    have hne : ¬ w.heap.size = q := by omega
    have HB2 := Lib.hid hb2
    clear b0 b1 b2 b3 HG0 hb2
    go_upto_region 6 with fail
    go_quiet (fail)
    go_wp2
    go_end0
    rw [HX.out]
    exact ⟨rfl, _, _, _, _, ((HG2.out.ip.pBlk tn).pPos 0).drewN _, blw_drewN (blwq (blwq HG2.out.below hlq 1 _) hlq 2 _) _⟩
  · dsimp only at hk ha0 ha1 ht0 ht1 he0 he1
    subst hk
    obtain ⟨a, rfl⟩ := Int.eq_ofNat_of_zero_le ha0
    obtain ⟨tn, rfl⟩ := Int.eq_ofNat_of_zero_le ht0
    obtain ⟨en, rfl⟩ := Int.eq_ofNat_of_zero_le he0
    have han : a < regs.length := by omega
    have HX : Hid (leav ⟨2, (a : Int), (tn : Int), (en : Int)⟩ ⟨st, blk, pos, val, regs, tr, steps⟩ = ⟨st, if rg regs (a : Int) = 0 then en else tn, 0, val, regs, tr, steps + 1⟩) := by
      rw [Hid, leav, if_neg (show ¬ (2 : Int) = 3 by decide)]
      simp
    obtain ⟨ga, rfl, _⟩ := regs_at hG.ip.v.regs han
    have hgq : ¬ ga = q := hG.ip.nr ga rfl
    have HRC := Lib.hid fun W (h : TW w ⟨2, (a : Int), (tn : Int), (en : Int)⟩ lo q (some ⟨ga, 0, none⟩) rc SA sc TA tc BA bl bc ⟨st, blk, pos, val, regs, tr, steps + 1⟩ W) => reg_cell h.ip han
    dsimp only at HRC
    generalize rg regs (a : Int) = x at *
    clear ht0 ht1 ha0 ha1 he0 he1
    go_enter Try.func30, Try.ntmps30
    go_upto_region 1 with fail
    generalize w.alloc (.cells #[.int .i64 2, .int .i64 (a : Int), .int .i64 (tn : Int), .int .i64 (en : Int)] 44) = W0 at *
    have f7 := hG.ip.row.cell 7; have b0 := hG.bx.cell 0; have r7 := hG.ip.row.frozen 7
    simp only [List.getElem?_toArray, List.getElem?_cons_zero, List.getElem?_cons_succ] at f7 b0
    have hG1 := hG.ip.pSteps (steps + 1)
    have hB1 := blwq hG.below hlq 7 (.int .i64 ((steps + 1 : Nat) : Int))
    have hX1 := hG.bx.far (q := ⟨q, 7, none⟩) (by show w.heap.size ≠ q; omega) (.int .i64 ((steps + 1 : Nat) : Int))
    have HG0 := Lib.hid (show TW w ⟨2, (a : Int), (tn : Int), (en : Int)⟩ lo q (some ⟨ga, 0, none⟩) rc SA sc TA tc BA bl bc ⟨st, blk, pos, val, regs, tr, steps + 1⟩ (W0.setCell ⟨q, 7, none⟩ (.int .i64 ((steps : Int) + 1))) from ⟨hG1, hB1, hX1⟩)
    clear hG hG1 hB1 hX1
    go_upto_region 4 with fail
    clear f7 r7 b0
    generalize W0.setCell ⟨q, 7, none⟩ (.int .i64 ((steps : Int) + 1)) = W1 at *
    have b0 := HG0.out.bx.cell 0; have b1 := HG0.out.bx.cell 1; have b2 := HG0.out.bx.cell 2; have b3 := HG0.out.bx.cell 3
    simp only [List.getElem?_toArray, List.getElem?_cons_zero, List.getElem?_cons_succ] at b0 b1 b2 b3
    have hq1 : q < W1.heap.size := HG0.out.ip.row.lt
    go_wp2_with fail
    refine (succ2_any _ _ _ _).mono ?_
    rintro e W2 ⟨g, rfl, hg0, hg1, hgc, hgd, hb2⟩
    have HG2 := Lib.hid (HG0.out.next hb2)
    have f1 := HG2.out.ip.row.cell 1; have f2 := HG2.out.ip.row.cell 2; have f4 := HG2.out.ip.row.cell 4; have r1 := HG2.out.ip.row.frozen 1; have r2 := HG2.out.ip.row.frozen 2
    have e0 := HG2.out.bx.cell 0; have e1 := HG2.out.bx.cell 1
    have hxc := HRC.out _ HG2.out
    simp only [List.getElem?_toArray, List.getElem?_cons_zero, List.getElem?_cons_succ] at f1 f2 f4 e0 e1
    have hne : ¬ w.heap.size = q := by omega
    have hne2 : ¬ g = q := by omega
    have HB2 := Lib.hid hb2
    clear b0 b1 b2 b3 HG0 hb2 HRC
    by_cases hx : x = 0
    · subst hx
      rw [Hid, if_pos rfl] at HX
      have HX3 := Lib.hid HX
      clear HX
      go_upto_region 6 with fail
      go_quiet (fail)
      have hI3 := ((HG2.out.ip.pBlk tn).pPos 0).drewN nq
      have hB3 := blw_drewN (blwq (blwq HG2.out.below hlq 1 (.int .i64 (tn : Int))) hlq 2 (.int .i64 ((0 : Nat) : Int))) nq
      have HI3 := Lib.hid (And.intro hI3 hB3)
      have f9 := hI3.row.cell 1; have r9 := hI3.row.frozen 1
      simp only [List.getElem?_toArray, List.getElem?_cons_zero, List.getElem?_cons_succ] at f9
      clear hI3 hB3
      go_wp2
      go_end0
      rw [HX3.out]
      first
        | exact ⟨rfl, _, _, _, _, HI3.out.1.pBlk en, blwq HI3.out.2 hlq 1 _⟩
        | exact ⟨rfl, _, _, _, _, (((HG2.out.ip.pBlk tn).pPos 0).pBlk en).drewN nq, blw_drewN (blwq (blwq (blwq HG2.out.below hlq 1 _) hlq 2 _) hlq 1 _) nq⟩
        | trace_state
    · have hx0 : (x == 0) = false := by simp [hx]
      rw [Hid, if_neg hx] at HX
      have HX3 := Lib.hid HX
      clear HX
      clear hx
      go_upto_region 6 with fail
      go_quiet (fail)
      go_wp2
      go_end0
      rw [HX3.out]
      exact ⟨rfl, _, _, _, _, ((HG2.out.ip.pBlk tn).pPos 0).drewN _, blw_drewN (blwq (blwq HG2.out.below hlq 1 _) hlq 2 _) _⟩
  · dsimp only at hk ha0 ha1
    subst hk
    obtain ⟨a, rfl⟩ := Int.eq_ofNat_of_zero_le ha0
    have han : a < regs.length := by omega
    have HX : Hid (leav ⟨3, (a : Int), tt, el⟩ ⟨st, blk, pos, val, regs, tr, steps⟩ = ⟨1, blk, pos, rg regs (a : Int), regs, tr, steps + 1⟩) := by
      rw [Hid, leav, if_pos rfl]
    obtain ⟨g, rfl, hga⟩ := regs_at hG.ip.v.regs han
    have hgq : ¬ g = q := hG.ip.nr g rfl
    clear ha0 ha1
    go_enter Try.func30, Try.ntmps30
    go_upto_region 1 with fail
    generalize w.alloc (.cells #[.int .i64 3, .int .i64 (a : Int), .int .i64 tt, .int .i64 el] 44) = W0 at *
    have f0 := hG.ip.row.cell 0; have f3 := hG.ip.row.cell 3; have f4 := hG.ip.row.cell 4; have f7 := hG.ip.row.cell 7; have b0 := hG.bx.cell 0; have b1 := hG.bx.cell 1; have r0 := hG.ip.row.frozen 0; have r3 := hG.ip.row.frozen 3; have r7 := hG.ip.row.frozen 7
    simp only [List.getElem?_toArray, List.getElem?_cons_zero, List.getElem?_cons_succ] at f0 f3 f4 f7 b0 b1
    have HG := Lib.hid hG
    clear hG
    generalize rg regs (a : Int) = x at *
    go_upto_region 3 with fail
    go_region
    go_wp2
    (try simp only [Exit.inBlock, Exit.then])
    refine bodyPost_ret (v := .tuple #[]) (results_none rfl _ _ _) rfl ?_
    rw [HX.out]
    exact ⟨rfl, _, _, _, _, (((HG.out.ip.pSteps (steps + 1)).pSt 1).pVal x).drew, Below.drew (blwq (blwq (blwq HG.out.below hlq 7 _) hlq 0 _) hlq 3 _)⟩

end Go.Proofs.Ytfkknebjhcafhaa
