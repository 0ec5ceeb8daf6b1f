/-
  The program's Exec.
-/
import Derived.Test.YtcimjghejclknaaExStep
import Derived.Test.YtcimjghejclknaaExStart
import Derived.Deep.LoopGhost
namespace Go.Proofs.Ytcimjghejclknaa
open Go.RowKit
set_option linter.unusedVariables false
set_option linter.unusedSimpArgs false

set_option maxRecDepth 100000 in
set_option maxHeartbeats 2000000 in
theorem xexec_bad (na : Nat) (regs slots : Int) (FA AA : Option Addr) (bl bc ac : Nat) (fa fuel : Int) (w : World) (h : ¬ (na : Int) = fa) (hm : na ≤ maxLen) :
    Calls Try.prog 11 #[.agg #[.int .i64 fa, .int .i64 regs, .int .i64 slots, .slice FA bl bc], .slice AA na ac, .int .i64 fuel] w (XQ w zrx 32) := by
  have hb0 := ((Below.refl w.heap.size w).alloc (Nat.le_refl _) (.cells #[.int .i64 fa, .int .i64 regs, .int .i64 slots, .slice FA bl bc] 24)).alloc (by simp) (.cells #[.int .i64 0, .int .i64 0, .int .i64 0, .int .i64 0, .slice none 0 0, .slice none 0 0, .slice none 0 0, .int .i64 0] 29)
  have hrs := Row.new' (W := w.alloc (.cells #[.int .i64 fa, .int .i64 regs, .int .i64 slots, .slice FA bl bc] 24)) (p := w.heap.size + 1) (by simp) 29 #[.int .i64 0, .int .i64 0, .int .i64 0, .int .i64 0, .slice none 0 0, .slice none 0 0, .slice none 0 0, .int .i64 0]
  have HB := Lib.hid hb0
  have HR := Lib.hid hrs
  clear hb0 hrs
  have C1 := Lib.hid fun W => xstart_bad na regs slots FA AA bl bc ac fa W h hm
  clear h hm
  go_enter Try.func11, Try.ntmps11
  go_wp2_with fail
  refine (C1.out _).mono ?_
  rintro e W1 ⟨RA, rc, SA, sc, TA, tc, rfl, hv, hb⟩
  have hrow := HR.out.below hb HR.out.lt
  have g0 := hrow.cell 0; have g1 := hrow.cell 1; have g2 := hrow.cell 2; have g3 := hrow.cell 3; have g4 := hrow.cell 4; have g5 := hrow.cell 5; have g6 := hrow.cell 6; have g7 := hrow.cell 7
  have r0 := hrow.frozen 0; have r1 := hrow.frozen 1; have r2 := hrow.frozen 2; have r3 := hrow.frozen 3; have r4 := hrow.frozen 4; have r5 := hrow.frozen 5; have r6 := hrow.frozen 6; have r7 := hrow.frozen 7
  simp only [List.getElem?_toArray, List.getElem?_cons_zero, List.getElem?_cons_succ] at g0 g1 g2 g3 g4 g5 g6 g7
  have hlt := hrow.lt
  have HB1 := Lib.hid (HB.out.trans (hb.mono HB.out.size))
  clear hrow hv hb HB HR C1
  go_wp2
  (try simp only [Exit.inBlock, Exit.then])
  have hb9 := blw8 (p := w.heap.size + 1) (by omega) HB1.out (.int .i64 0) (.int .i64 0) (.int .i64 0) (.int .i64 0) (.slice none 0 0) (.slice none 0 0) (.slice none 0 0) (.int .i64 0)
  refine bodyPost_ret (v := .tuple #[.agg #[.int .i64 0, .int .i64 0, .int .i64 0, .int .i64 0, .slice none 0 0, .slice none 0 0, .slice none 0 0, .int .i64 0], .int .i64 32]) ?_ rfl ⟨none, 0, none, 0, none, 0, rfl, XV.zero _ _, hb9.alloc hb9.size _⟩
  rw [results_cell_tmp rfl]
  go_simp

set_option maxRecDepth 100000 in
set_option maxHeartbeats 4000000 in
theorem xexec_any (args : List Int) (n m : Nat) (bs : List MBlk) (B : Nat) (BA AA : Option Addr) (bc ac : Nat) (fuel : Int) (w : World) (hs : Sees w B AA (ints args)) (hbs : MBlksAt w B BA bs) (hB : B ≤ w.heap.size) (hn : n ≤ 1000) (hm9 : m ≤ 1000) (hl : args.length ≤ m) (hF : OkM n m bs) (hwa : ∀ v ∈ args, InI v) (hcn : mcodeN bs ≤ 1000000) (hm : bs.length ≤ 1000) (hfu : fuel ≤ 1000000) :
    Calls Try.prog 11 #[.agg #[.int .i64 args.length, .int .i64 n, .int .i64 m, .slice BA bs.length bc], .slice AA args.length ac, .int .i64 fuel] w (XQ w (runX bs (xn0 n m args) fuel.toNat) 0) := by
  have hb0 := ((Below.refl w.heap.size w).alloc (Nat.le_refl _) (.cells #[.int .i64 args.length, .int .i64 n, .int .i64 m, .slice BA bs.length bc] 24)).alloc (by simp) (.cells #[.int .i64 0, .int .i64 0, .int .i64 0, .int .i64 0, .slice none 0 0, .slice none 0 0, .slice none 0 0, .int .i64 0] 29)
  have hbx := (Row.new w 24 #[.int .i64 args.length, .int .i64 n, .int .i64 m, .slice BA bs.length bc]).alloc (.cells #[.int .i64 0, .int .i64 0, .int .i64 0, .int .i64 0, .slice none 0 0, .slice none 0 0, .slice none 0 0, .int .i64 0] 29)
  have hrs := Row.new' (W := w.alloc (.cells #[.int .i64 args.length, .int .i64 n, .int .i64 m, .slice BA bs.length bc] 24)) (p := w.heap.size + 1) (by simp) 29 #[.int .i64 0, .int .i64 0, .int .i64 0, .int .i64 0, .slice none 0 0, .slice none 0 0, .slice none 0 0, .int .i64 0]
  have hsz : ((w.alloc (.cells #[.int .i64 args.length, .int .i64 n, .int .i64 m, .slice BA bs.length bc] 24)).alloc (.cells #[.int .i64 0, .int .i64 0, .int .i64 0, .int .i64 0, .slice none 0 0, .slice none 0 0, .slice none 0 0, .int .i64 0] 29)).heap.size = w.heap.size + 1 + 1 := by simp
  have C1 := Lib.hid (xstart_any args n m w.heap.size BA AA bs.length bc ac _ ((hs.more hB).below hb0) hb0.size hn hm9 hl)
  have HB := Lib.hid hb0
  have HX := Lib.hid hbx
  have HR := Lib.hid hrs
  have HZ := Lib.hid hsz
  have HBS := Lib.hid (hbs.more hB)
  have HG0 := Lib.hid (xn0_good hF hl hwa)
  have HL := Lib.hid hl
  clear hb0 hbx hrs hsz hs hbs hl hwa
  go_enter Try.func11, Try.ntmps11
  go_wp2_with fail
  refine C1.out.mono ?_
  generalize ((w.alloc (.cells #[.int .i64 args.length, .int .i64 n, .int .i64 m, .slice BA bs.length bc] 24)).alloc (.cells #[.int .i64 0, .int .i64 0, .int .i64 0, .int .i64 0, .slice none 0 0, .slice none 0 0, .slice none 0 0, .int .i64 0] 29)) = W0 at *
  rintro e W1 ⟨RA, rc, SA, sc, TA, tc, rfl, hv, hb⟩
  have hv2 := hv.base (lo' := w.heap.size + 1 + 1) (by have := HZ.out; omega)
  have hbx1 := HX.out.below hb HX.out.lt
  have hrs1 := HR.out.below hb HR.out.lt
  have hz1 : w.heap.size + 1 + 1 ≤ W1.heap.size := by have := HZ.out; have := hb.size; omega
  have HB1 := Lib.hid (HB.out.trans (hb.mono HB.out.size))
  have HV := Lib.hid hv2
  have HX1 := Lib.hid hbx1
  have HR1 := Lib.hid hrs1
  have d3 := hbx1.cell 3
  simp only [List.getElem?_toArray, List.getElem?_cons_zero, List.getElem?_cons_succ] at d3
  clear hv hv2 hb hbx1 hrs1 HB HX HR HZ C1
  have hw1 : w.heap.size < W1.heap.size := by omega
  have hbz := ((Below.refl W1.heap.size W1).alloc (Nat.le_refl _) (.cells #[.int .i64 (xn0 n m args).st, .int .i64 ((xn0 n m args).blk : Int), .int .i64 ((xn0 n m args).pos : Int), .int .i64 (xn0 n m args).val, .slice RA (xn0 n m args).regs.length rc, .slice SA (xn0 n m args).slots.length sc, .slice TA (xn0 n m args).trace.length tc, .int .i64 ((xn0 n m args).steps : Int)] 29)).alloc (by simp) (.cells #[.int .i64 (xn0 n m args).st, .int .i64 ((xn0 n m args).blk : Int), .int .i64 ((xn0 n m args).pos : Int), .int .i64 (xn0 n m args).val, .slice RA (xn0 n m args).regs.length rc, .slice SA (xn0 n m args).slots.length sc, .slice TA (xn0 n m args).trace.length tc, .int .i64 ((xn0 n m args).steps : Int), .slice BA bs.length bc] 60)
  have hI : Xp ((W1.alloc (.cells #[.int .i64 (xn0 n m args).st, .int .i64 ((xn0 n m args).blk : Int), .int .i64 ((xn0 n m args).pos : Int), .int .i64 (xn0 n m args).val, .slice RA (xn0 n m args).regs.length rc, .slice SA (xn0 n m args).slots.length sc, .slice TA (xn0 n m args).trace.length tc, .int .i64 ((xn0 n m args).steps : Int)] 29)).alloc (.cells #[.int .i64 (xn0 n m args).st, .int .i64 ((xn0 n m args).blk : Int), .int .i64 ((xn0 n m args).pos : Int), .int .i64 (xn0 n m args).val, .slice RA (xn0 n m args).regs.length rc, .slice SA (xn0 n m args).slots.length sc, .slice TA (xn0 n m args).trace.length tc, .int .i64 ((xn0 n m args).steps : Int), .slice BA bs.length bc] 60)) (w.heap.size + 1 + 1) (W1.heap.size + 1) exT [.slice BA bs.length bc] RA rc SA sc TA tc (xn0 n m args) :=
    ⟨Row.new' (p := W1.heap.size + 1) (by simp) _ _, HV.out.below hbz, by omega, by decide⟩
  have HI0 := Lib.hid hI
  have HR2 := Lib.hid (HR1.out.below hbz HR1.out.lt)
  have HB2 := Lib.hid (HB1.out.trans (hbz.mono HB1.out.size))
  have HS0 := Lib.hid (show (xn0 n m args).st = 0 ∧ (xn0 n m args).steps = 0 from ⟨rfl, rfl⟩)
  have hfu2 : fuel ≤ 1073741824 := by omega
  clear hbz hI HR1 HB1 HX1 HV
  go_upto_region 5 with fail
  clear d3
  go_wp2
  go_loopg [] fuel.toNat (fun g wr => ∃ (k : Nat) (RB : Option Addr) (rd : Nat) (SB : Option Addr) (sd : Nat) (TB : Option Addr) (td : Nat), k + g = fuel.toNat ∧ Hid (Xp wr (w.heap.size + 1 + 1) (W1.heap.size + 1) exT [.slice BA bs.length bc] RB rd SB sd TB td (runX bs (xn0 n m args) k)) ∧ Hid (Row wr (w.heap.size + 1) 29 #[.int .i64 0, .int .i64 0, .int .i64 0, .int .i64 0, .slice none 0 0, .slice none 0 0, .slice none 0 0, .int .i64 0]) ∧ Hid (Below w.heap.size w wr))
  case atStart => exact ⟨0, RA, rc, SA, sc, TA, tc, by omega, HI0.out, HR2.out, HB2.out⟩
  case round =>
    obtain ⟨k, RB, rd, SB, sd, TB, td, hk, HI, HRW, HBW⟩ := hrel
    have hgd := runX_good hF HG0.out k
    have hsp := runX_steps bs (xn0 n m args) k
    have hstop := runX_stop bs (xn0 n m args) (n := k)
    rw [HS0.out.2, Nat.zero_add] at hsp
    have HGD := Lib.hid hgd
    have HSP := Lib.hid hsp
    have HKN : Hid (runX bs (xn0 n m args) (k + 1) = stepX bs (runX bs (xn0 n m args) k)) := rfl
    have HFIN : Hid (¬ (k : Int) < fuel → runX bs (xn0 n m args) fuel.toNat = runX bs (xn0 n m args) k) := fun h => by rw [show fuel.toNat = k by omega]
    have HFX: Hid (¬ (runX bs (xn0 n m args) k).st = 0 → runX bs (xn0 n m args) fuel.toNat = runX bs (xn0 n m args) k) := fun h => by rw [← hk]; exact hstop h gk
    have hk9 : (k : Int) ≤ 1000000 := by omega
    clear HI0 HR2 HB2 hgd hsp hstop
    generalize hr : runX bs (xn0 n m args) k = r at *
    have HRR := Lib.hid hr
    clear hr
    obtain ⟨f0, f1, f2, f3, f4, f5, f6, f7⟩ := HI.out.cells
    have hq9 : W1.heap.size + 1 < wr.heap.size := HI.out.row.lt
    by_cases h0 : r.st = 0
    · have e0 : (r.st == 0) = true := by simp [h0]
      have hsk : r.steps = k := HSP.out.2.2 h0
      by_cases hkf : (k : Int) < fuel
      · have hlt : (r.steps : Int) < fuel := by omega
        have hgp : 0 < gk := by omega
        have hn9 := HGD.out.lenr
        have hm8 := HGD.out.lens
        have C2 := Lib.hid (xstep_any bs r w.heap.size (w.heap.size + 1 + 1) (W1.heap.size + 1) RB SB TB BA rd sd td bc wr HI.out (HBS.out.below HBW.out) (by omega) (by rw [hn9, hm8]; exact hF) (by rw [hn9, hm8]; exact HGD.out) h0 (by omega) (by omega) (by omega) hcn hm)
        have HH := Lib.hid (And.intro h0 (And.intro hsk (And.intro hgp hk)))
        clear h0 hsk hgp hk hn9 hm8
        go_wp2_with fail
        refine C2.out.mono ?_
        rintro e W4 ⟨rfl, RC, re, SC, se, TC, te, hI4, hb4⟩
        have HI4 := Lib.hid hI4
        have HR4 := Lib.hid (HRW.out.below hb4 (by omega))
        have HB4 := Lib.hid (HBW.out.trans (hb4.mono (by omega)))
        clear hI4 hb4 f0 f1 f2 f3 f4 f5 f6 f7 C2
        go_wp2
        go_roundg (gk - 1)
        case measure => have := HH.out.2.2.1; omega
        case rel => exact ⟨k + 1, RC, re, SC, se, TC, te, by have := HH.out.2.2; omega, by rw [Hid, HKN.out]; exact HI4.out, HR4.out, HB4.out⟩
      · have hlt : fuel ≤ (r.steps : Int) := by omega
        have HE := Lib.hid (HFIN.out hkf)
        clear hkf h0 hsk hk
        have HR4 := HRW
        have g0 := HRW.out.cell 0; have g1 := HRW.out.cell 1; have g2 := HRW.out.cell 2; have g3 := HRW.out.cell 3; have g4 := HRW.out.cell 4; have g5 := HRW.out.cell 5; have g6 := HRW.out.cell 6; have g7 := HRW.out.cell 7
        have r0' := HRW.out.frozen 0; have r1 := HRW.out.frozen 1; have r2 := HRW.out.frozen 2; have r3 := HRW.out.frozen 3; have r4 := HRW.out.frozen 4; have r5 := HRW.out.frozen 5; have r6 := HRW.out.frozen 6; have r7 := HRW.out.frozen 7
        simp only [List.getElem?_toArray, List.getElem?_cons_zero, List.getElem?_cons_succ] at g0 g1 g2 g3 g4 g5 g6 g7
        go_wp2
        (try simp only [Exit.inBlock, Exit.then])
        rw [HE.out]
        refine bodyPost_ret (v := .tuple #[.agg #[.int .i64 r.st, .int .i64 (r.blk : Int), .int .i64 (r.pos : Int), .int .i64 r.val, .slice RB r.regs.length rd, .slice SB r.slots.length sd, .slice TB r.trace.length td, .int .i64 (r.steps : Int)], .int .i64 0]) ?_ rfl ⟨RB, rd, SB, sd, TB, td, rfl, (HI.out.v.mods (mods8 wr (w.heap.size + 1) _ _ _ _ _ _ _ _) (fun k hk => .inl (by unfold Is at hk; omega))).base (by omega), blw8 (by omega) HBW.out _ _ _ _ _ _ _ _⟩
        rw [results_cell_tmp rfl]
        go_simp
    · have e0 : (r.st == 0) = false := by simp [h0]
      have HE := Lib.hid (HFX.out h0)
      clear h0 hk
      have HR4 := HRW
      have g0 := HRW.out.cell 0; have g1 := HRW.out.cell 1; have g2 := HRW.out.cell 2; have g3 := HRW.out.cell 3; have g4 := HRW.out.cell 4; have g5 := HRW.out.cell 5; have g6 := HRW.out.cell 6; have g7 := HRW.out.cell 7
      have r0' := HRW.out.frozen 0; have r1 := HRW.out.frozen 1; have r2 := HRW.out.frozen 2; have r3 := HRW.out.frozen 3; have r4 := HRW.out.frozen 4; have r5 := HRW.out.frozen 5; have r6 := HRW.out.frozen 6; have r7 := HRW.out.frozen 7
      simp only [List.getElem?_toArray, List.getElem?_cons_zero, List.getElem?_cons_succ] at g0 g1 g2 g3 g4 g5 g6 g7
      go_wp2
      (try simp only [Exit.inBlock, Exit.then])
      rw [HE.out]
      refine bodyPost_ret (v := .tuple #[.agg #[.int .i64 r.st, .int .i64 (r.blk : Int), .int .i64 (r.pos : Int), .int .i64 r.val, .slice RB r.regs.length rd, .slice SB r.slots.length sd, .slice TB r.trace.length td, .int .i64 (r.steps : Int)], .int .i64 0]) ?_ rfl ⟨RB, rd, SB, sd, TB, td, rfl, (HI.out.v.mods (mods8 wr (w.heap.size + 1) _ _ _ _ _ _ _ _) (fun k hk => .inl (by unfold Is at hk; omega))).base (by omega), blw8 (by omega) HBW.out _ _ _ _ _ _ _ _⟩
      rw [results_cell_tmp rfl]
      go_simp

end Go.Proofs.Ytcimjghejclknaa
