/-
  The program's step.
-/
import Derived.Test.YtfkknebjhcafhaaRunLeav
import Derived.StillTailTactics
namespace Go.Proofs.Ytfkknebjhcafhaa
open Go.RowKit
set_option linter.unusedVariables false

set_option maxRecDepth 100000 in
set_option maxHeartbeats 4000000 in
theorem step_any (bs : List Blk) (r : Rn) (B lo q : Nat) (RA SA TA BA : Option Addr) (rc sc tc bc : Nat) (w : World) (hI : Ip w lo q RA rc SA sc TA tc BA bs.length bc r) (hs : BlksAt w B BA bs) (hB : B ≤ lo) (hF : OkF r.regs.length bs) (hG : Good r.regs.length bs r) (h0 : r.st = 0) (hst : r.steps ≤ 1000000) (hrl : r.regs.length ≤ 1000000) (hn : codeN bs ≤ 1000000) (hm : bs.length ≤ 1000) :
    Calls Try.prog 23 #[.pointer (some ⟨q, 0, none⟩)] w fun e w' => e = .returned (.tuple #[]) ∧ IpP w lo q SA sc BA bs.length bc (stepR bs r) w' := by
  have hqw : q < w.heap.size := hI.row.lt
  have hlq := hI.lt
  have htr : r.trace.length ≤ 1000000 := Nat.le_trans hG.tr hst
  obtain ⟨b, o, rfl, hb, hat⟩ := hs.at_ hG.blk
  obtain ⟨A1, c1, hc0, hl1, hl2, hin⟩ := hat.code
  have hcl := codeN_mem bs r.blk hG.blk
  have hgb := hG.blk
  have hpl : r.pos ≤ bs[r.blk].code.length := by have := hG.pos; rwa [blkAt_lt hG.blk] at this
  have hbk : (r.blk : Int) < bs.length := by have := hG.blk; omega
  have f1 := hI.row.cell 1; have f2 := hI.row.cell 2; have f8 := hI.row.cell 8
  simp only [List.getElem?_toArray, List.getElem?_cons_zero, List.getElem?_cons_succ] at f1 f2 f8
  have HI := Lib.hid hI
  have hxy : blkAt bs r.blk = bs[r.blk] := blkAt_lt hG.blk
  have hbq : ¬ b = q := by omega
  by_cases hlt : r.pos < bs[r.blk].code.length
  · have HX : Hid (stepR bs r = perf (bs[r.blk].code[r.pos]) r) := by
      have hlt' : r.pos < (blkAt bs r.blk).code.length := by rw [hxy]; exact hlt
      rw [Hid, stepR, if_pos h0, dif_pos hlt']
      congr 1
      simp only [hxy]
    have hio := hF.ins _ (List.getElem_mem hG.blk) _ (List.getElem_mem hlt)
    obtain ⟨b1, o1, rfl, hb1, hi⟩ := hin.at_ hlt
    have C1 := Lib.hid fun (W : World) (n : Nat) (h : Ip W lo q RA rc SA sc TA tc (some ⟨b, o, none⟩) bs.length bc r) => perf_any (bs[r.blk].code[r.pos]) r lo q RA SA TA (some ⟨b, o, none⟩) rc sc tc bs.length bc W h hio hG.wf (by omega) hst htr hrl
    have e0 := hi.c0; have e1 := hi.c1; have e2 := hi.c2; have e3 := hi.c3; have e4 := hi.c4
    have hlt2 : (r.pos : Int) < bs[r.blk].code.length := by omega
    clear hat hs hI hF hi hin hl1 hl2 hpl hxy hio
    generalize bs[r.blk].code[r.pos] = x at *
    generalize bs[r.blk] = y at *
    generalize hN : bs.length = nb at *
    generalize r.blk = kb at *
    generalize r.pos = kp at *
    go_enter Try.func23, Try.ntmps23
    go_wp2
    go_quiet (fail)
    revert nq
    intro n1
    go_wp2
    go_quiet (fail)
    go_upto_region 2 with fail
    have HI5 := Lib.hid ((HI.out.drewN n1).drewN nq)
    have HB5 := Lib.hid (blw_drewN (blw_drewN (Below.refl lo w) n1) nq)
    have HC := Lib.hid (show ((w.drewN n1).drewN nq).cell? ⟨q, 2, none⟩ = some (.int .i64 (kp : Int)) ∧ ((w.drewN n1).drewN nq).cell? ⟨b, o + kb * 5, none⟩ = some (.slice (some ⟨b1, o1, none⟩) y.code.length c1) ∧ ((w.drewN n1).drewN nq).cell? ⟨b1, o1 + kp * 5, none⟩ = some (.int .i64 x.op) ∧ ((w.drewN n1).drewN nq).cell? ⟨b1, o1 + kp * 5 + 1, none⟩ = some (.int .i64 x.d) ∧ ((w.drewN n1).drewN nq).cell? ⟨b1, o1 + kp * 5 + 2, none⟩ = some (.int .i64 x.a) ∧ ((w.drewN n1).drewN nq).cell? ⟨b1, o1 + kp * 5 + 3, none⟩ = some (.int .i64 x.b) ∧ ((w.drewN n1).drewN nq).cell? ⟨b1, o1 + kp * 5 + 4, none⟩ = some (.int .i64 x.imm) from ⟨f2, hc0, e0, e1, e2, e3, e4⟩)
    clear f1 f2 f8 hc0 e0 e1 e2 e3 e4 HI
    generalize (w.drewN n1).drewN nq = W5 at *
    obtain ⟨f2, hc0, e0, e1, e2, e3, e4⟩ := HC.out
    clear HC
    go_still_tail 12, (by kernel_rfl)
    change wpList _ _ _ _ _ W5.drew
    go_wp2_with fail
    refine (C1.out _ 0 HI5.out.drew).mono ?_
    rintro e W6 ⟨rfl, hI6⟩
    have HI6 := Lib.hid hI6
    clear hI6
    go_wp2
    go_end0
    rw [HX.out]
    obtain ⟨RB, rd, TB, td, h1, h2⟩ := HI6.out
    exact ⟨rfl, RB, rd, TB, td, h1, HB5.out.trans (below_un h2 (Nat.le_refl _))⟩
  · have HX : Hid (stepR bs r = leav bs[r.blk].term r) := by
      have hlt' : ¬ r.pos < (blkAt bs r.blk).code.length := by rw [hxy]; exact hlt
      rw [Hid, stepR, if_pos h0, dif_neg hlt', hxy]
    have hto := hF.tm _ (List.getElem_mem hG.blk)
    have C1 := Lib.hid fun (W : World) (n : Nat) (h : Ip W lo q RA rc SA sc TA tc (some ⟨b, o, none⟩) bs.length bc r) => leave_any bs[r.blk].term r bs.length lo q RA SA TA (some ⟨b, o, none⟩) rc sc tc bs.length bc W h hto hst hrl
    have t0 := hat.t0; have t1 := hat.t1; have t2 := hat.t2; have t3 := hat.t3
    have hlt2 : (bs[r.blk].code.length : Int) ≤ r.pos := by omega
    clear hat hs hI hF hin hl1 hl2 hpl hxy hto
    generalize bs[r.blk] = y at *
    generalize hN : bs.length = nb at *
    generalize r.blk = kb at *
    generalize r.pos = kp at *
    go_enter Try.func23, Try.ntmps23
    go_wp2
    go_quiet (fail)
    revert nq
    intro n1
    go_wp2
    go_quiet (fail)
    go_wp2_with fail
    refine (C1.out _ 0 (HI.out.drewN (n1 + nq))).mono ?_
    rintro e W6 ⟨rfl, hI6⟩
    have HI6 := Lib.hid hI6
    clear hI6
    go_wp2
    go_end0
    rw [HX.out]
    obtain ⟨RB, rd, TB, td, h1, h2⟩ := HI6.out
    exact ⟨rfl, RB, rd, TB, td, h1, below_unN h2 (Nat.le_refl _)⟩

end Go.Proofs.Ytfkknebjhcafhaa
