/-
  The program's step.
-/
import Derived.Test.YtcimjghejclknaaExLeav
import Derived.StillTailTactics
namespace Go.Proofs.Ytcimjghejclknaa
open Go.RowKit
set_option linter.unusedVariables false

theorem Xp.cell8 {w : World} {lo q : Nat} {T : TypeId} {u : Value} {RA SA TA : Option Addr} {rc sc tc : Nat} {r : Xn} (h : Xp w lo q T [u] RA rc SA sc TA tc r) : w.cell? ⟨q, 8, none⟩ = some u := by
  rw [h.row.cell]
  rfl

set_option maxRecDepth 100000 in
set_option maxHeartbeats 4000000 in
theorem xstep_any (bs : List MBlk) (r : Xn) (B lo q : Nat) (RA SA TA BA : Option Addr) (rc sc tc bc : Nat) (w : World) (hI : Xp w lo q exT [.slice BA bs.length bc] RA rc SA sc TA tc r) (hs : MBlksAt w B BA bs) (hB : B ≤ lo) (hF : OkM r.regs.length r.slots.length bs) (hG : GoodX r.regs.length r.slots.length bs r) (h0 : r.st = 0) (hst : r.steps ≤ 1000000) (hrl : r.regs.length ≤ 1000000) (hsl : r.slots.length ≤ 1000000) (hn : mcodeN bs ≤ 1000000) (hm : bs.length ≤ 1000) :
    Calls Try.prog 27 #[.pointer (some ⟨q, 0, none⟩)] w fun e w' => e = .returned (.tuple #[]) ∧ XpP w lo q exT [.slice BA bs.length bc] (stepX bs r) w' := by
  have hqw : q < w.heap.size := hI.row.lt
  have hlq := hI.lt
  have htr : r.trace.length ≤ 1000000 := Nat.le_trans hG.tr hst
  obtain ⟨b, o, rfl, hb, hat⟩ := hs.at_ hG.blk
  obtain ⟨A1, c1, hc0, hl1, hl2, hin⟩ := hat.code
  have hcl := mcodeN_mem bs r.blk hG.blk
  have hgb := hG.blk
  have hpl : r.pos ≤ bs[r.blk].code.length := by have := hG.pos; rwa [mblkAt_lt hG.blk] at this
  have hbk : (r.blk : Int) < bs.length := by have := hG.blk; omega
  obtain ⟨_, f1, f2, _, _, _, _, _⟩ := hI.cells
  have f8 := hI.cell8
  have HI := Lib.hid hI
  have hxy : mblkAt bs r.blk = bs[r.blk] := mblkAt_lt hG.blk
  have hbq : ¬ b = q := by omega
  by_cases hlt : r.pos < bs[r.blk].code.length
  · have HX : Hid (stepX bs r = xperf (bs[r.blk].code[r.pos]) r) := by
      have hlt' : r.pos < (mblkAt bs r.blk).code.length := by rw [hxy]; exact hlt
      rw [Hid, stepX, if_pos h0, dif_pos hlt']
      congr 1
      simp only [hxy]
    have hio := hF.ins _ (List.getElem_mem hG.blk) _ (List.getElem_mem hlt)
    obtain ⟨b1, o1, rfl, hb1, hi⟩ := hin.at_ hlt
    have C1 := Lib.hid fun (W : World) (h : Xp W lo q exT [.slice (some ⟨b, o, none⟩) bs.length bc] RA rc SA sc TA tc r) => xperf_any (bs[r.blk].code[r.pos]) r lo q [.slice (some ⟨b, o, none⟩) bs.length bc] RA SA TA rc sc tc W h hio hG.wfr (by omega) hst htr hrl hsl
    have e0 := hi.c0; have e1 := hi.c1; have e2 := hi.c2; have e3 := hi.c3; have e4 := hi.c4; have e5 := hi.c5; have e6 := hi.c6
    have hlt2 : (r.pos : Int) < bs[r.blk].code.length := by omega
    clear hat hs hI hF hi hin hl1 hl2 hpl hxy hio
    generalize bs[r.blk].code[r.pos] = x at *
    generalize bs[r.blk] = y at *
    generalize hN : bs.length = nb at *
    generalize r.blk = kb at *
    generalize r.pos = kp at *
    go_enter Try.func27, Try.ntmps27
    go_wp2
    go_quiet (fail)
    revert nq
    intro n1
    go_wp2
    go_quiet (fail)
    go_upto_region 2 with fail
    have HI5 := Lib.hid ((HI.out.drewN n1).drewN nq)
    have HB5 := Lib.hid (blw_drewN (blw_drewN (Below.refl lo w) n1) nq)
    have HC := Lib.hid (show ((w.drewN n1).drewN nq).cell? ⟨q, 2, none⟩ = some (.int .i64 (kp : Int)) ∧ ((w.drewN n1).drewN nq).cell? ⟨b, o + kb * 5, none⟩ = some (.slice (some ⟨b1, o1, none⟩) y.code.length c1) ∧ ((w.drewN n1).drewN nq).cell? ⟨b1, o1 + kp * 7, none⟩ = some (.int .i64 x.op) ∧ ((w.drewN n1).drewN nq).cell? ⟨b1, o1 + kp * 7 + 1, none⟩ = some (.int .i64 x.d) ∧ ((w.drewN n1).drewN nq).cell? ⟨b1, o1 + kp * 7 + 2, none⟩ = some (.int .i64 x.a) ∧ ((w.drewN n1).drewN nq).cell? ⟨b1, o1 + kp * 7 + 3, none⟩ = some (.int .i64 x.b) ∧ ((w.drewN n1).drewN nq).cell? ⟨b1, o1 + kp * 7 + 4, none⟩ = some (.int .i64 x.imm) ∧ ((w.drewN n1).drewN nq).cell? ⟨b1, o1 + kp * 7 + 5, none⟩ = some (.int .i64 x.dst) ∧ ((w.drewN n1).drewN nq).cell? ⟨b1, o1 + kp * 7 + 6, none⟩ = some (.int .i64 x.src) from ⟨f2, hc0, e0, e1, e2, e3, e4, e5, e6⟩)
    clear f1 f2 f8 hc0 e0 e1 e2 e3 e4 e5 e6 HI
    generalize (w.drewN n1).drewN nq = W5 at *
    obtain ⟨f2, hc0, e0, e1, e2, e3, e4, e5, e6⟩ := HC.out
    clear HC
    go_still_tail 12, (by kernel_rfl)
    change wpList _ _ _ _ _ W5.drew
    go_wp2_with fail
    refine (C1.out _ HI5.out.drew).mono ?_
    rintro e W6 ⟨rfl, hI6⟩
    have HI6 := Lib.hid hI6
    clear hI6
    go_wp2
    go_end0
    rw [HX.out]
    obtain ⟨RB, rd, SB, sd, TB, td, h1, h2⟩ := HI6.out
    exact ⟨rfl, RB, rd, SB, sd, TB, td, h1, HB5.out.trans (below_un h2 (Nat.le_refl _))⟩
  · have HX : Hid (stepX bs r = xleav (bs[r.blk].term) r) := by
      have hlt' : ¬ r.pos < (mblkAt bs r.blk).code.length := by rw [hxy]; exact hlt
      rw [Hid, stepX, if_pos h0, dif_neg hlt', hxy]
    have hto := hF.tm _ (List.getElem_mem hG.blk)
    have C1 := Lib.hid fun (W : World) (h : Xp W lo q exT [.slice (some ⟨b, o, none⟩) bs.length bc] RA rc SA sc TA tc r) => xleave_any bs[r.blk].term r bs.length lo q [.slice (some ⟨b, o, none⟩) bs.length bc] RA SA TA rc sc tc W h hto hst hrl
    have t0 := hat.t0; have t1 := hat.t1; have t2 := hat.t2; have t3 := hat.t3
    have hlt2 : (bs[r.blk].code.length : Int) ≤ r.pos := by omega
    clear hat hs hI hF hin hl1 hl2 hpl hxy hto
    generalize bs[r.blk] = y at *
    generalize hN : bs.length = nb at *
    generalize r.blk = kb at *
    generalize r.pos = kp at *
    go_enter Try.func27, Try.ntmps27
    go_wp2
    go_quiet (fail)
    revert nq
    intro n1
    go_wp2
    go_quiet (fail)
    go_wp2_with fail
    refine (C1.out _ (HI.out.drewN (n1 + nq))).mono ?_
    rintro e W6 ⟨rfl, hI6⟩
    have HI6 := Lib.hid hI6
    clear hI6
    go_wp2
    go_end0
    rw [HX.out]
    obtain ⟨RB, rd, SB, sd, TB, td, h1, h2⟩ := HI6.out
    exact ⟨rfl, RB, rd, SB, sd, TB, td, h1, below_unN h2 (Nat.le_refl _)⟩

end Go.Proofs.Ytcimjghejclknaa
