/-
  The program's perform.
-/
import Derived.Test.YtcimjghejclknaaExComp
namespace Go.Proofs.Ytcimjghejclknaa
open Go.RowKit
set_option linter.unusedVariables false
set_option linter.unusedSimpArgs false

section
variable {w w' : World} {lo q : Nat} {T : TypeId} {ex : List Value} {RA SA TA : Option Addr} {rc sc tc : Nat} {r : Xn}
theorem Below.put27x {B : Nat} {a W : World} (h : Below B a W) (hq : B ≤ q) (u v : Value) : Below B a ((W.setCell ⟨q, 2, none⟩ u).setCell ⟨q, 7, none⟩ v) := (h.setCell (p := ⟨q, 2, none⟩) hq u).setCell (p := ⟨q, 7, none⟩) hq v
/-- One more instruction, one more step. -/
theorem Xp.tick (h : Xp w lo q T ex RA rc SA sc TA tc r) : Xp ((w.setCell ⟨q, 2, none⟩ (.int .i64 ((r.pos + 1 : Nat) : Int))).setCell ⟨q, 7, none⟩ (.int .i64 ((r.steps + 1 : Nat) : Int))) lo q T ex RA rc SA sc TA tc { r with pos := r.pos + 1, steps := r.steps + 1 } :=
  (h.pPos (r.pos + 1)).pSteps (r.steps + 1)
end

set_option maxRecDepth 100000 in
set_option maxHeartbeats 4000000 in
theorem xperf_any (i : Mi) (r : Xn) (lo q : Nat) (ex : List Value) (RA SA TA : Option Addr) (rc sc tc : Nat) (w : World) (hI : Xp w lo q exT ex RA rc SA sc TA tc r) (hok : MiOk r.regs.length r.slots.length i) (hw : ∀ v ∈ r.regs, InI v) (hp : r.pos ≤ 1000000) (hst : r.steps ≤ 1000000) (htr : r.trace.length ≤ 1000000) (hrl : r.regs.length ≤ 1000000) (hsl : r.slots.length ≤ 1000000) :
    Calls Try.prog 35 #[.pointer (some ⟨q, 0, none⟩), .agg #[.int .i64 i.op, .int .i64 i.d, .int .i64 i.a, .int .i64 i.b, .int .i64 i.imm, .int .i64 i.dst, .int .i64 i.src]] w fun e w' => e = .returned (.tuple #[]) ∧ XpP w lo q exT ex (xperf i r) w' := by
  have hG := CW.start hI i
  have hlq := hI.lt
  rcases hok with ⟨h18, hd, hs⟩ | ⟨h17, ha0, ha1⟩ | ⟨h18, h17, _, ha0, ha1, hd0, hd1, hb0, hb1⟩
  · have C1 := Lib.hid fun W (h : CW w i lo q exT ex RA rc SA sc TA tc r W) => move_any i r lo q ex RA SA TA rc sc tc W h.xp hd hs hrl hsl
    have HX : Hid (xperf i r = { putX r i.dst (rdX r i.src) with pos := r.pos + 1, steps := r.steps + 1 }) := by rw [Hid, xperf, if_pos h18]
    have HPP : Hid ((putX r i.dst (rdX r i.src)).pos = r.pos ∧ (putX r i.dst (rdX r i.src)).steps = r.steps) := by
      rcases putX_ways r i.dst (rdX r i.src) with ⟨_, e⟩ | ⟨_, e⟩ <;> rw [e] <;> exact ⟨rfl, rfl⟩
    have hz : w.heap.size < (w.alloc (.cells #[.int .i64 i.op, .int .i64 i.d, .int .i64 i.a, .int .i64 i.b, .int .i64 i.imm, .int .i64 i.dst, .int .i64 i.src] 52)).heap.size := hG.bx.lt
    obtain ⟨op, d, ia, ib, imm, dst, src⟩ := i
    dsimp only at *
    subst h18
    have b0 := hG.bx.cell 0; have b1 := hG.bx.cell 1; have b2 := hG.bx.cell 2; have b3 := hG.bx.cell 3; have b4 := hG.bx.cell 4; have b5 := hG.bx.cell 5; have b6 := hG.bx.cell 6
    simp only [List.getElem?_toArray, List.getElem?_cons_zero, List.getElem?_cons_succ] at b0 b1 b2 b3 b4 b5 b6
    have HG := Lib.hid hG
    clear hG hI hd hs
    go_enter Try.func35, Try.ntmps35
    go_upto_region 1 with fail
    generalize w.alloc (.cells #[.int .i64 18, .int .i64 d, .int .i64 ia, .int .i64 ib, .int .i64 imm, .int .i64 dst, .int .i64 src] 52) = W0 at *
    go_wp2_with fail
    refine (C1.out _ HG.out).mono ?_
    rintro e W1 ⟨rfl, hX1, hb1⟩
    have hT := hX1.tick
    rw [HPP.out.1, HPP.out.2] at hT
    obtain ⟨_, _, f2, _, _, _, _, f7⟩ := hX1.cells
    rw [HPP.out.1] at f2
    rw [HPP.out.2] at f7
    have r2 := hX1.row.frozen 2; have r7 := hX1.row.frozen 7
    have HT := Lib.hid hT
    have HB := Lib.hid (HG.out.below.trans hb1)
    clear hT hX1 hb1 HG C1 HPP b0 b1 b2 b3 b4 b5 b6
    go_wp2
    go_end0
    rw [HX.out]
    exact ⟨rfl, _, _, _, _, _, _, HT.out, Below.put27x HB.out hlq _ _⟩
  · have C1 := Lib.hid fun W (h : CW w i lo q exT ex RA rc SA sc TA tc r W) => xemit_any i r lo q ex RA SA TA rc sc tc W h.xp ha0 ha1 htr hrl
    have HX : Hid (xperf i r = { r with trace := r.trace ++ [rg r.regs i.a], pos := r.pos + 1, steps := r.steps + 1 }) := by rw [Hid, xperf, if_neg (by omega), if_pos h17]
    have hz : w.heap.size < (w.alloc (.cells #[.int .i64 i.op, .int .i64 i.d, .int .i64 i.a, .int .i64 i.b, .int .i64 i.imm, .int .i64 i.dst, .int .i64 i.src] 52)).heap.size := hG.bx.lt
    obtain ⟨op, d, ia, ib, imm, dst, src⟩ := i
    dsimp only at *
    subst h17
    have b0 := hG.bx.cell 0; have b1 := hG.bx.cell 1; have b2 := hG.bx.cell 2; have b3 := hG.bx.cell 3; have b4 := hG.bx.cell 4; have b5 := hG.bx.cell 5; have b6 := hG.bx.cell 6
    simp only [List.getElem?_toArray, List.getElem?_cons_zero, List.getElem?_cons_succ] at b0 b1 b2 b3 b4 b5 b6
    have HG := Lib.hid hG
    clear hG hI ha0 ha1
    go_enter Try.func35, Try.ntmps35
    go_upto_region 1 with fail
    generalize w.alloc (.cells #[.int .i64 17, .int .i64 d, .int .i64 ia, .int .i64 ib, .int .i64 imm, .int .i64 dst, .int .i64 src] 52) = W0 at *
    go_wp2_with fail
    refine (C1.out _ HG.out).mono ?_
    rintro e W1 ⟨rfl, A1, c1, hX1, hb1⟩
    have hT := hX1.tick
    obtain ⟨_, _, f2, _, _, _, _, f7⟩ := hX1.cells
    have r2 := hX1.row.frozen 2; have r7 := hX1.row.frozen 7
    dsimp only at hT f2 f7
    have HT := Lib.hid hT
    have HB := Lib.hid (HG.out.below.trans hb1)
    clear hT hX1 hb1 HG C1 b0 b1 b2 b3 b4 b5 b6
    go_wp2
    go_end0
    rw [HX.out]
    exact ⟨rfl, _, _, _, _, _, _, HT.out, Below.put27x HB.out hlq _ _⟩
  · have C1 := Lib.hid fun W (h : CW w i lo q exT ex RA rc SA sc TA tc r W) => xcomp_any i r lo q ex RA SA TA rc sc tc W h.xp ha0 ha1 hd0 hd1 hb0 hb1 hw hrl
    have HX : Hid (xperf i r = if evo i.op (rg r.regs i.b) = true then { r with regs := r.regs.set i.d.toNat (ev i.op (rg r.regs i.a) (rg r.regs i.b) i.imm), pos := r.pos + 1, steps := r.steps + 1 } else { r with st := 2 }) := by rw [Hid, xperf, if_neg h18, if_neg h17]
    have hz : w.heap.size < (w.alloc (.cells #[.int .i64 i.op, .int .i64 i.d, .int .i64 i.a, .int .i64 i.b, .int .i64 i.imm, .int .i64 i.dst, .int .i64 i.src] 52)).heap.size := hG.bx.lt
    have e18 : (i.op == 18) = false := by simp [h18]
    have e17 : (i.op == 17) = false := by simp [h17]
    have b0 := hG.bx.cell 0; have b1 := hG.bx.cell 1; have b2 := hG.bx.cell 2; have b3 := hG.bx.cell 3; have b4 := hG.bx.cell 4; have b5 := hG.bx.cell 5; have b6 := hG.bx.cell 6
    simp only [List.getElem?_toArray, List.getElem?_cons_zero, List.getElem?_cons_succ] at b0 b1 b2 b3 b4 b5 b6
    have HG := Lib.hid hG
    clear hG hI ha0 ha1 hd0 hd1 hb0 hb1 h18 h17
    generalize evo i.op (rg r.regs i.b) = ok at *
    generalize ev i.op (rg r.regs i.a) (rg r.regs i.b) i.imm = v at *
    go_enter Try.func35, Try.ntmps35
    go_upto_region 1 with fail
    generalize w.alloc (.cells #[.int .i64 i.op, .int .i64 i.d, .int .i64 i.a, .int .i64 i.b, .int .i64 i.imm, .int .i64 i.dst, .int .i64 i.src] 52) = W0 at *
    go_wp2_with fail
    refine (C1.out _ HG.out).mono ?_
    rintro e W1 ⟨rfl, hX1, hb1⟩
    have HB := Lib.hid (HG.out.below.trans hb1)
    clear hb1 HG C1 b0 b1 b2 b3 b4 b5 b6
    cases ok
    · rw [if_neg (by decide)] at hX1
      have hX := HX.out
      rw [if_neg (by decide)] at hX
      have HX2 := Lib.hid hX
      have f0 := hX1.cells.1
      have r0 := hX1.row.frozen 0
      have HT := Lib.hid (hX1.pSt 2)
      clear HX hX hX1
      go_wp2
      (try simp only [Exit.inBlock, Exit.then])
      refine bodyPost_ret (v := .tuple #[]) (results_none rfl _ _ _) rfl ?_
      rw [HX2.out]
      exact ⟨rfl, _, _, _, _, _, _, HT.out, HB.out.setCell (by show lo ≤ q; omega) _⟩
    · rw [if_pos rfl] at hX1
      have hX := HX.out
      rw [if_pos rfl] at hX
      have HX2 := Lib.hid hX
      have hT := hX1.tick
      obtain ⟨_, _, f2, _, _, _, _, f7⟩ := hX1.cells
      have r2 := hX1.row.frozen 2; have r7 := hX1.row.frozen 7
      dsimp only at hT f2 f7
      have HT := Lib.hid hT
      clear HX hX hX1 hT
      go_wp2
      go_end0
      rw [HX2.out]
      exact ⟨rfl, _, _, _, _, _, _, HT.out, Below.put27x HB.out hlq _ _⟩

end Go.Proofs.Ytcimjghejclknaa
