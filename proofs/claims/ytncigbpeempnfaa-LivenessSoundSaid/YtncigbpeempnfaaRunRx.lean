/-
  The reference's Exec; Right.
-/
import Derived.Test.YtncigbpeempnfaaRunRs
import Derived.Test.YtncigbpeempnfaaPk2
import Derived.Test.YtncigbpeempnfaaSrcFew
import Derived.Deep.LoopGhost
namespace Go.Proofs.Ytncigbpeempnfaa
open Go.RowKit
set_option linter.unusedVariables false
set_option linter.unusedSimpArgs false

set_option maxRecDepth 100000 in
set_option maxHeartbeats 4000000 in
theorem rexec_any (args : List Int) (n : Nat) (bs : List Blk) (B : Nat) (BA AA : Option Addr) (bc ac : Nat) (fuel : Int) (w : World) (hs : Sees w B AA (ints args)) (hbs : BlksAt w B BA bs) (hB : B ≤ w.heap.size) (hn : n ≤ 1000) (hl : args.length ≤ n) (hF : OkF n bs) (hwa : ∀ v ∈ args, InI v) (hcn : codeN bs ≤ 1000000) (hm : bs.length ≤ 1000) (hfu : fuel ≤ 1000000) :
    Calls Try.prog 24 #[.agg #[.int .i64 args.length, .int .i64 n, .slice BA bs.length bc], .slice AA args.length ac, .int .i64 fuel] w (RunP w (runR bs (rn0 n args) fuel.toNat)) := by
  have hb0 := ((Below.refl w.heap.size w).alloc (Nat.le_refl _) (.cells #[.int .i64 args.length, .int .i64 n, .slice BA bs.length bc] 24)).alloc (by simp) (.cells #[.int .i64 0, .int .i64 0, .int .i64 0, .int .i64 0, .slice none 0 0, .slice none 0 0, .slice none 0 0, .int .i64 0] 46)
  have hbx := (Row.new w 24 #[.int .i64 args.length, .int .i64 n, .slice BA bs.length bc]).alloc (.cells #[.int .i64 0, .int .i64 0, .int .i64 0, .int .i64 0, .slice none 0 0, .slice none 0 0, .slice none 0 0, .int .i64 0] 46)
  have hrs := Row.new' (W := w.alloc (.cells #[.int .i64 args.length, .int .i64 n, .slice BA bs.length bc] 24)) (p := w.heap.size + 1) (by simp) 46 #[.int .i64 0, .int .i64 0, .int .i64 0, .int .i64 0, .slice none 0 0, .slice none 0 0, .slice none 0 0, .int .i64 0]
  have hsz : ((w.alloc (.cells #[.int .i64 args.length, .int .i64 n, .slice BA bs.length bc] 24)).alloc (.cells #[.int .i64 0, .int .i64 0, .int .i64 0, .int .i64 0, .slice none 0 0, .slice none 0 0, .slice none 0 0, .int .i64 0] 46)).heap.size = w.heap.size + 1 + 1 := by simp
  have C1 := Lib.hid (rstart_any args n w.heap.size BA AA bs.length bc ac _ ((hs.more hB).below hb0) hb0.size hn hl)
  have HB := Lib.hid hb0
  have HX := Lib.hid hbx
  have HR := Lib.hid hrs
  have HZ := Lib.hid hsz
  have HBS := Lib.hid (hbs.more hB)
  have HG0 := Lib.hid (start_good hF hl hwa)
  have HL := Lib.hid hl
  clear hb0 hbx hrs hsz hs hbs hl hwa
  go_enter Try.func24, Try.ntmps24
  go_wp2_with fail
  refine C1.out.mono ?_
  generalize ((w.alloc (.cells #[.int .i64 args.length, .int .i64 n, .slice BA bs.length bc] 24)).alloc (.cells #[.int .i64 0, .int .i64 0, .int .i64 0, .int .i64 0, .slice none 0 0, .slice none 0 0, .slice none 0 0, .int .i64 0] 46)) = W0 at *
  rintro e W1 ⟨RA, rc, SA, sc, TA, tc, rfl, hv, hb⟩
  have hr0 : (rn0 n args).regs.length = n := by show (args ++ List.replicate (n - args.length) 0).length = n; rw [List.length_append, List.length_replicate]; have := HL.out; omega
  have hz1 : w.heap.size + 1 + 1 ≤ W1.heap.size := by have := HZ.out; have := hb.size; omega
  have hbz := (Below.refl W1.heap.size W1).alloc (Nat.le_refl _) (.cells #[.int .i64 (rn0 n args).st, .int .i64 ((rn0 n args).blk : Int), .int .i64 ((rn0 n args).pos : Int), .int .i64 (rn0 n args).val, .slice RA (rn0 n args).regs.length rc, .slice SA 0 sc, .slice TA (rn0 n args).trace.length tc, .int .i64 ((rn0 n args).steps : Int)] 46)
  have hO : Ou (W1.alloc (.cells #[.int .i64 (rn0 n args).st, .int .i64 ((rn0 n args).blk : Int), .int .i64 ((rn0 n args).pos : Int), .int .i64 (rn0 n args).val, .slice RA (rn0 n args).regs.length rc, .slice SA 0 sc, .slice TA (rn0 n args).trace.length tc, .int .i64 ((rn0 n args).steps : Int)] 46)) (w.heap.size + 1 + 1) W1.heap.size RA rc SA sc TA tc (rn0 n args) :=
    ⟨Row.new _ _ _, (hv.base (lo' := w.heap.size + 1 + 1) (by have := HZ.out; omega)).below hbz, hz1⟩
  have HO0 := Lib.hid hO
  have HX2 := Lib.hid ((HX.out.below hb HX.out.lt).below hbz (HX.out.below hb HX.out.lt).lt)
  have HR2 := Lib.hid ((HR.out.below hb HR.out.lt).below hbz (HR.out.below hb HR.out.lt).lt)
  have HB2 := Lib.hid ((HB.out.trans (hb.mono HB.out.size)).trans (hbz.mono (by omega)))
  have HS0 := Lib.hid (show (rn0 n args).st = 0 ∧ (rn0 n args).steps = 0 from ⟨rfl, rfl⟩)
  have HR0 := Lib.hid hr0
  clear hv hb hbz hO HB HX HR HZ C1 hr0
  go_wp2
  generalize W1.heap.size = z at *
  go_loopg [] fuel.toNat (fun g wr => ∃ (k : Nat) (RB : Option Addr) (rd : Nat) (SB : Option Addr) (sd : Nat) (TB : Option Addr) (td : Nat), k + g = fuel.toNat ∧ Hid (Ou wr (w.heap.size + 1 + 1) z RB rd SB sd TB td (runR bs (rn0 n args) k)) ∧ Hid (Row wr (w.heap.size + 1) 46 #[.int .i64 0, .int .i64 0, .int .i64 0, .int .i64 0, .slice none 0 0, .slice none 0 0, .slice none 0 0, .int .i64 0]) ∧ Hid (Row wr w.heap.size 24 #[.int .i64 args.length, .int .i64 n, .slice BA bs.length bc]) ∧ Hid (Below w.heap.size w wr))
  case atStart => exact ⟨0, RA, rc, SA, sc, TA, tc, by omega, HO0.out, HR2.out, HX2.out, HB2.out⟩
  case round =>
    obtain ⟨k, RB, rd, SB, sd, TB, td, hk, HO, HRW, HXW, HBW⟩ := hrel
    have hgd := run_good hF HG0.out k
    have hsp := run_steps bs (rn0 n args) k
    have hstop := run_stop bs (rn0 n args) (n := k)
    rw [HS0.out.2, Nat.zero_add] at hsp
    have HGD := Lib.hid hgd
    have HSP := Lib.hid hsp
    have HKN : Hid (runR bs (rn0 n args) (k + 1) = stepR bs (runR bs (rn0 n args) k)) := rfl
    have HFN : Hid (¬ (k : Int) < fuel → runR bs (rn0 n args) fuel.toNat = runR bs (rn0 n args) k) := fun h => by rw [show fuel.toNat = k by omega]
    have HFX : Hid (¬ (runR bs (rn0 n args) k).st = 0 → runR bs (rn0 n args) fuel.toNat = runR bs (rn0 n args) k) := fun h => by rw [← hk]; exact hstop h gk
    have hk9 : (k : Int) ≤ 1000000 := by omega
    clear HO0 HR2 HB2 HX2 hgd hsp hstop
    generalize hr : runR bs (rn0 n args) k = r at *
    have HRR := Lib.hid hr
    clear hr
    have f0 := HO.out.row.cell 0; have f1 := HO.out.row.cell 1; have f2 := HO.out.row.cell 2; have f3 := HO.out.row.cell 3; have f4 := HO.out.row.cell 4; have f5 := HO.out.row.cell 5; have f6 := HO.out.row.cell 6; have f7 := HO.out.row.cell 7
    have d0 := HXW.out.cell 0; have d1 := HXW.out.cell 1; have d2 := HXW.out.cell 2
    simp only [List.getElem?_toArray, List.getElem?_cons_zero, List.getElem?_cons_succ] at f0 f1 f2 f3 f4 f5 f6 f7 d0 d1 d2
    have hz9 : z < wr.heap.size := HO.out.row.lt
    by_cases h0 : r.st = 0
    · have e0 : (r.st == 0) = true := by simp [h0]
      have hsk : r.steps = k := HSP.out.2.2 h0
      by_cases hkf : (k : Int) < fuel
      · have hlt : (r.steps : Int) < fuel := by omega
        have hgp : 0 < gk := by omega
        have hn9 := HGD.out.len
        have C2 := Lib.hid (rstepr_any bs r w.heap.size (w.heap.size + 1 + 1) (args.length : Int) (n : Int) RB SB TB BA rd sd td bc wr HO.out.v (HBS.out.below HBW.out) HBW.out.size (by rw [hn9]; exact hF) (by rw [hn9]; exact HGD.out) (by omega) (by omega) hcn hm)
        have HH := Lib.hid (And.intro h0 (And.intro hsk (And.intro hgp hk)))
        clear h0 hsk hgp hk hn9
        go_wp2_with fail
        refine C2.out.mono ?_
        rintro e W4 ⟨RC, re, SC, se, TC, te, rfl, hv4, hb4⟩
        have hrow := HO.out.row.below hb4 hz9
        have hO4 := And.intro hrow hv4
        have f0 := hrow.cell 0; have f1 := hrow.cell 1; have f2 := hrow.cell 2; have f3 := hrow.cell 3; have f4 := hrow.cell 4; have f5 := hrow.cell 5; have f6 := hrow.cell 6; have f7 := hrow.cell 7
        have q0 := hrow.frozen 0; have q1 := hrow.frozen 1; have q2 := hrow.frozen 2; have q3 := hrow.frozen 3; have q4 := hrow.frozen 4; have q5 := hrow.frozen 5; have q6 := hrow.frozen 6; have q7 := hrow.frozen 7
        simp only [List.getElem?_toArray, List.getElem?_cons_zero, List.getElem?_cons_succ] at f0 f1 f2 f3 f4 f5 f6 f7
        have HROW := Lib.hid hrow
        have HV4 := Lib.hid hv4
        have HR4 := Lib.hid (HRW.out.below hb4 HRW.out.lt)
        have HX4 := Lib.hid (HXW.out.below hb4 HXW.out.lt)
        have HB4 := Lib.hid (HBW.out.trans (hb4.mono HBW.out.size))
        clear hrow hv4 hb4 C2 hO4
        have hzl := HO.out.lt
        go_wp2
        go_roundg (gk - 1)
        case measure => have := HH.out.2.2.1; omega
        case rel =>
          have hnz : ∀ k, k < w.heap.size + 1 + 1 → ¬ Is z k := fun k hk hs => by unfold Is at hs; omega
          refine ⟨k + 1, RC, re, SC, se, TC, te, by have := HH.out.2.2; omega, ?_, HR4.out.mods (mods8 _ z _ _ _ _ _ _ _ _) (hnz _ (by omega)), HX4.out.mods (mods8 _ z _ _ _ _ _ _ _ _) (hnz _ (by omega)), blw8 (by omega) HB4.out _ _ _ _ _ _ _ _⟩
          rw [Hid, HKN.out]
          exact ⟨HROW.out.put8 _ _ _ _ _ _ _ _, (HV4.out.mods (mods8 W4 z _ _ _ _ _ _ _ _) (fun k hk => .inl (by unfold Is at hk; omega))).base (by omega), hzl⟩
      · have hlt : fuel ≤ (r.steps : Int) := by omega
        have HE := Lib.hid (HFN.out hkf)
        clear hkf h0 hsk hk
        have g0 := HRW.out.cell 0; have g1 := HRW.out.cell 1; have g2 := HRW.out.cell 2; have g3 := HRW.out.cell 3; have g4 := HRW.out.cell 4; have g5 := HRW.out.cell 5; have g6 := HRW.out.cell 6; have g7 := HRW.out.cell 7
        have r0' := HRW.out.frozen 0; have r1 := HRW.out.frozen 1; have r2 := HRW.out.frozen 2; have r3 := HRW.out.frozen 3; have r4 := HRW.out.frozen 4; have r5 := HRW.out.frozen 5; have r6 := HRW.out.frozen 6; have r7 := HRW.out.frozen 7
        simp only [List.getElem?_toArray, List.getElem?_cons_zero, List.getElem?_cons_succ] at g0 g1 g2 g3 g4 g5 g6 g7
        have hzl := HO.out.lt
        go_wp2
        (try simp only [Exit.inBlock, Exit.then])
        rw [HE.out]
        refine bodyPost_ret (v := .agg #[.int .i64 r.st, .int .i64 (r.blk : Int), .int .i64 (r.pos : Int), .int .i64 r.val, .slice RB r.regs.length rd, .slice SB 0 sd, .slice TB r.trace.length td, .int .i64 (r.steps : Int)]) ?_ rfl ⟨RB, rd, SB, sd, TB, td, rfl, (HO.out.v.mods (mods8 wr (w.heap.size + 1) _ _ _ _ _ _ _ _) (fun k hk => .inl (by unfold Is at hk; omega))).base (by omega), blw8 (by omega) HBW.out _ _ _ _ _ _ _ _⟩
        exact results_cell_row rfl _ _ (w.heap.size + 1) 46 #[.int .i64 r.st, .int .i64 (r.blk : Int), .int .i64 (r.pos : Int), .int .i64 r.val, .slice RB r.regs.length rd, .slice SB 0 sd, .slice TB r.trace.length td, .int .i64 (r.steps : Int)] (0, 0) _ rfl (HRW.out.put8 _ _ _ _ _ _ _ _) Try.underlying46 rfl (by kernel_rfl)
    · have e0 : (r.st == 0) = false := by simp [h0]
      have HE := Lib.hid (HFX.out h0)
      clear h0 hk
      have g0 := HRW.out.cell 0; have g1 := HRW.out.cell 1; have g2 := HRW.out.cell 2; have g3 := HRW.out.cell 3; have g4 := HRW.out.cell 4; have g5 := HRW.out.cell 5; have g6 := HRW.out.cell 6; have g7 := HRW.out.cell 7
      have r0' := HRW.out.frozen 0; have r1 := HRW.out.frozen 1; have r2 := HRW.out.frozen 2; have r3 := HRW.out.frozen 3; have r4 := HRW.out.frozen 4; have r5 := HRW.out.frozen 5; have r6 := HRW.out.frozen 6; have r7 := HRW.out.frozen 7
      simp only [List.getElem?_toArray, List.getElem?_cons_zero, List.getElem?_cons_succ] at g0 g1 g2 g3 g4 g5 g6 g7
      have hzl := HO.out.lt
      go_wp2
      (try simp only [Exit.inBlock, Exit.then])
      rw [HE.out]
      refine bodyPost_ret (v := .agg #[.int .i64 r.st, .int .i64 (r.blk : Int), .int .i64 (r.pos : Int), .int .i64 r.val, .slice RB r.regs.length rd, .slice SB 0 sd, .slice TB r.trace.length td, .int .i64 (r.steps : Int)]) ?_ rfl ⟨RB, rd, SB, sd, TB, td, rfl, (HO.out.v.mods (mods8 wr (w.heap.size + 1) _ _ _ _ _ _ _ _) (fun k hk => .inl (by unfold Is at hk; omega))).base (by omega), blw8 (by omega) HBW.out _ _ _ _ _ _ _ _⟩
      exact results_cell_row rfl _ _ (w.heap.size + 1) 46 #[.int .i64 r.st, .int .i64 (r.blk : Int), .int .i64 (r.pos : Int), .int .i64 r.val, .slice RB r.regs.length rd, .slice SB 0 sd, .slice TB r.trace.length td, .int .i64 (r.steps : Int)] (0, 0) _ rfl (HRW.out.put8 _ _ _ _ _ _ _ _) Try.underlying46 rfl (by kernel_rfl)

end Go.Proofs.Ytncigbpeempnfaa
