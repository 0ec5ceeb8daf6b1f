/-
  The program's Step (its region is written by wip/lab/genstepi.py).
-/
import Derived.Test.YtfkknebjhcafhaaRunStep
namespace Go.Proofs.Ytfkknebjhcafhaa
open Go.RowKit
set_option linter.unusedVariables false
set_option linter.unusedSimpArgs false

/-- What Step carries: the run's box, the result, the interpreter. -/
structure StW (w : World) (RA : Option Addr) (rc : Nat) (SA : Option Addr) (sc : Nat) (TA : Option Addr) (tc : Nat) (BA : Option Addr) (bl bc : Nat) (r : Rn) (W : World) : Prop where
  below : Below w.heap.size w W
  bx : Row W (w.heap.size + 1) 29 #[.int .i64 r.st, .int .i64 (r.blk : Int), .int .i64 (r.pos : Int), .int .i64 r.val, .slice RA r.regs.length rc, .slice SA 0 sc, .slice TA r.trace.length tc, .int .i64 (r.steps : Int)]
  res : Row W (w.heap.size + 1 + 1) 29 #[.int .i64 0, .int .i64 0, .int .i64 0, .int .i64 0, .slice none 0 0, .slice none 0 0, .slice none 0 0, .int .i64 0]
  pr : Row W (w.heap.size + 1 + 1 + 1) 55 #[.int .i64 r.st, .int .i64 (r.blk : Int), .int .i64 (r.pos : Int), .int .i64 r.val, .slice RA r.regs.length rc, .slice SA 0 sc, .slice TA r.trace.length tc, .int .i64 (r.steps : Int), .slice BA bl bc]
section
variable {w W W' : World} {RA SA TA BA : Option Addr} {rc sc tc bl bc : Nat} {r : Rn}
theorem StW.next (h : StW w RA rc SA sc TA tc BA bl bc r W) (hb : Below W.heap.size W W') : StW w RA rc SA sc TA tc BA bl bc r W' :=
  ⟨h.below.trans (hb.mono h.below.size), h.bx.below hb h.bx.lt, h.res.below hb h.res.lt, h.pr.below hb h.pr.lt⟩
theorem StW.start (w : World) (r : Rn) (RA : Option Addr) (rc : Nat) (SA : Option Addr) (sc : Nat) (TA : Option Addr) (tc : Nat) (BA : Option Addr) (bl bc : Nat) (args regs : Int) :
    StW w RA rc SA sc TA tc BA bl bc r ((((w.alloc (.cells #[.int .i64 args, .int .i64 regs, .slice BA bl bc] 24)).alloc (.cells #[.int .i64 r.st, .int .i64 (r.blk : Int), .int .i64 (r.pos : Int), .int .i64 r.val, .slice RA r.regs.length rc, .slice SA 0 sc, .slice TA r.trace.length tc, .int .i64 (r.steps : Int)] 29)).alloc (.cells #[.int .i64 0, .int .i64 0, .int .i64 0, .int .i64 0, .slice none 0 0, .slice none 0 0, .slice none 0 0, .int .i64 0] 29)).alloc (.cells #[.int .i64 r.st, .int .i64 (r.blk : Int), .int .i64 (r.pos : Int), .int .i64 r.val, .slice RA r.regs.length rc, .slice SA 0 sc, .slice TA r.trace.length tc, .int .i64 (r.steps : Int), .slice BA bl bc] 55)) where
  below := ((((Below.refl w.heap.size w).alloc (Nat.le_refl _) _).alloc (by simp) _).alloc (by simp; omega) _).alloc (by simp; omega) _
  bx := ((Row.new' (p := w.heap.size + 1) (by simp) _ _).alloc _).alloc _
  res := (Row.new' (p := w.heap.size + 1 + 1) (by simp) _ _).alloc _
  pr := Row.new' (p := w.heap.size + 1 + 1 + 1) (by simp) _ _
end

set_option maxRecDepth 100000 in
set_option maxHeartbeats 4000000 in
theorem stepi_any (bs : List Blk) (r : Rn) (B lo : Nat) (args regs0 : Int) (RA SA TA BA : Option Addr) (rc sc tc bc : Nat) (w : World) (hV : RunV w lo RA rc TA tc r) (hs : BlksAt w B BA bs) (hB : B ≤ w.heap.size) (hF : OkF r.regs.length bs) (hG : Good r.regs.length bs r) (hst : r.steps ≤ 1000000) (hrl : r.regs.length ≤ 1000000) (hn : codeN bs ≤ 1000000) (hm : bs.length ≤ 1000) :
    Calls Try.prog 15 #[.agg #[.int .i64 args, .int .i64 regs0, .slice BA bs.length bc], .agg #[.int .i64 r.st, .int .i64 (r.blk : Int), .int .i64 (r.pos : Int), .int .i64 r.val, .slice RA r.regs.length rc, .slice SA 0 sc, .slice TA r.trace.length tc, .int .i64 (r.steps : Int)]] w (RunP w (stepR bs r)) := by
  have htr : r.trace.length ≤ 1000000 := Nat.le_trans hG.tr hst
  have HG0 := Lib.hid (StW.start w r RA rc SA sc TA tc BA bs.length bc args regs0)
  have hV0 := hV.below (((((Below.refl w.heap.size w).alloc (Nat.le_refl _) (.cells #[.int .i64 args, .int .i64 regs0, .slice BA bs.length bc] 24)).alloc (by simp) (.cells #[.int .i64 r.st, .int .i64 (r.blk : Int), .int .i64 (r.pos : Int), .int .i64 r.val, .slice RA r.regs.length rc, .slice SA 0 sc, .slice TA r.trace.length tc, .int .i64 (r.steps : Int)] 29)).alloc (by simp; omega) (.cells #[.int .i64 0, .int .i64 0, .int .i64 0, .int .i64 0, .slice none 0 0, .slice none 0 0, .slice none 0 0, .int .i64 0] 29)).alloc (by simp; omega) (.cells #[.int .i64 r.st, .int .i64 (r.blk : Int), .int .i64 (r.pos : Int), .int .i64 r.val, .slice RA r.regs.length rc, .slice SA 0 sc, .slice TA r.trace.length tc, .int .i64 (r.steps : Int), .slice BA bs.length bc] 55))
  have HV := Lib.hid hV0
  have HS := Lib.hid (hs.more hB)
  have HSt := Lib.hid fun (hst0 : r.st = 0) (W : World) (RB TB : Option Addr) (rd td : Nat) (hI : Ip W (w.heap.size + 1 + 1 + 1) (w.heap.size + 1 + 1 + 1) RB rd SA sc TB td BA bs.length bc r) (hs : BlksAt W w.heap.size BA bs) => step_any bs r w.heap.size (w.heap.size + 1 + 1 + 1) (w.heap.size + 1 + 1 + 1) RB SA TB BA rd sc td bc W hI hs (by omega) hF hG hst0 hst hrl hn hm
  have HSN := Lib.hid fun h => stepR_stop (bs := bs) (r := r) h
  generalize hR2 : stepR bs r = r2 at *
  clear hV0 hV hs hF hG hR2
  obtain ⟨st, blk, pos, val, regs, tr, steps⟩ := r
  dsimp only at *
  generalize hL : bs.length = nb at *
  have HL := Lib.hid hL
  clear hL
  go_enter Try.func15, Try.ntmps15
  go_upto_region 2 with fail
  generalize ((((w.alloc (.cells #[.int .i64 args, .int .i64 regs0, .slice BA nb bc] 24)).alloc (.cells #[.int .i64 st, .int .i64 (blk : Int), .int .i64 (pos : Int), .int .i64 val, .slice RA regs.length rc, .slice SA 0 sc, .slice TA tr.length tc, .int .i64 (steps : Int)] 29)).alloc (.cells #[.int .i64 0, .int .i64 0, .int .i64 0, .int .i64 0, .slice none 0 0, .slice none 0 0, .slice none 0 0, .int .i64 0] 29)).alloc (.cells #[.int .i64 st, .int .i64 (blk : Int), .int .i64 (pos : Int), .int .i64 val, .slice RA regs.length rc, .slice SA 0 sc, .slice TA tr.length tc, .int .i64 (steps : Int), .slice BA nb bc] 55)) = W0 at *
  have HG := HG0
  clear HG0
  have d4 := HG.out.bx.cell 4; have d6 := HG.out.bx.cell 6
  simp only [List.getElem?_toArray, List.getElem?_cons_zero, List.getElem?_cons_succ] at d4 d6
  have C1 := Lib.hid (clone_any (w := W0.drew) regs ((HV.out.mods (S := No) (Mods.refl _ _).drew fun _ h => h.elim).regs) hrl)
  refine wp_region_held_drew (S := (fun w' => w'.cell? ⟨w.heap.size + 1, 4, none⟩ = some (.slice RA regs.length rc) ∧ w'.cell? ⟨w.heap.size + 1, 6, none⟩ = some (.slice TA tr.length tc))) (by kernel_rfl) ⟨d4, d6⟩ (fun hHeld => ?_)
  refine take_at 0 10 (.pointer (some ⟨w.heap.size + 1, 4, none⟩)) rfl rfl (by kernel_rfl) (by kernel_rfl) (by kernel_rfl) (fun _ _ _ h => h) (Or.inl ⟨by rfl, ?_⟩) hHeld ?_
  · intro w9 hSw
    (try dsimp only at hSw)
    go_simp
  (try simp only [Act.put, List.setIfInBounds_toArray, List.set_cons_zero, List.set_cons_succ])
  refine take_at 1 11 (.slice RA regs.length rc) rfl rfl (by kernel_rfl) (by kernel_rfl) (by kernel_rfl) (fun _ _ _ h => h) (Or.inl ⟨by rfl, ?_⟩) hHeld ?_
  · intro w9 hSw
    (try dsimp only at hSw)
    go_simp
  (try simp only [Act.put, List.setIfInBounds_toArray, List.set_cons_zero, List.set_cons_succ])
  refine take_at 3 13 (.pointer (some ⟨w.heap.size + 1, 6, none⟩)) rfl rfl (by kernel_rfl) (by kernel_rfl) (by kernel_rfl) (fun _ _ _ h => h) (Or.inl ⟨by rfl, ?_⟩) hHeld ?_
  · intro w9 hSw
    (try dsimp only at hSw)
    go_simp
  (try simp only [Act.put, List.setIfInBounds_toArray, List.set_cons_zero, List.set_cons_succ])
  refine take_at 4 14 (.slice TA tr.length tc) rfl rfl (by kernel_rfl) (by kernel_rfl) (by kernel_rfl) (fun _ _ _ h => h) (Or.inl ⟨by rfl, ?_⟩) hHeld ?_
  · intro w9 hSw
    (try dsimp only at hSw)
    go_simp
  (try simp only [Act.put, List.setIfInBounds_toArray, List.set_cons_zero, List.set_cons_succ])
  refine wpAnyH_ready (rs := [2]) (by kernel_rfl) (by simp) ?_
  refine AllReadyH.cons rfl (fun K hK => ?_) AllReadyH.nil
  go_simp
  refine (C1.out).mono ?_
  rintro e W1 ⟨A1, c1, rfl, ho1, hb1⟩
  (try go_wp2_with fail)
  have hb1 := below_un hb1 (Nat.le_refl _)
  have HG1 := Lib.hid (HG.out.next hb1)
  have hX4 := HG1.out.bx.cell 4; have hX6 := HG1.out.bx.cell 6
  simp only [List.getElem?_toArray, List.getElem?_cons_zero, List.getElem?_cons_succ] at hX4 hX6
  have C2 := Lib.hid (clone_any (w := W1) tr ((Mods.of_below (S := No) hb1).ownS HV.out.trace fun _ _ h => h) htr)
  have HO1 := Lib.hid ho1
  have hz1 : W0.heap.size ≤ W1.heap.size := hb1.size
  clear ho1 hb1
  refine hK.out _ _ ⟨hX4, hX6⟩ (fun hHeld => ?_)
  clear hK K
  refine wpAnyH_ready (rs := [5]) (by kernel_rfl) (by simp) ?_
  refine AllReadyH.cons rfl (fun K hK => ?_) AllReadyH.nil
  go_simp
  refine (C2.out).mono ?_
  rintro e W2 ⟨A2, c2, rfl, ho2, hb2⟩
  (try go_wp2_with fail)
  have HG2 := Lib.hid (HG1.out.next hb2)
  have hY4 := HG2.out.bx.cell 4; have hY6 := HG2.out.bx.cell 6
  have q4 := HG2.out.pr.cell 4; have q6 := HG2.out.pr.cell 6; have s4 := HG2.out.pr.frozen 4; have s6 := HG2.out.pr.frozen 6
  simp only [List.getElem?_toArray, List.getElem?_cons_zero, List.getElem?_cons_succ] at hY4 hY6 q4 q6
  have HO2 := Lib.hid ho2
  have HB2 := Lib.hid hb2
  clear ho2 hb2 hX4 hX6 C1 C2
  refine hK.out _ _ ⟨hY4, hY6⟩ (fun hHeld => ?_)
  clear hK K
  refine take_at 6 16 (.pointer (some ⟨w.heap.size + 1 + 1 + 1, 0, none⟩)) rfl rfl (by kernel_rfl) (by kernel_rfl) (by kernel_rfl) (fun _ _ _ h => h) (Or.inl ⟨by rfl, ?_⟩) hHeld ?_
  · intro w9 hSw
    (try dsimp only at hSw)
    go_simp
  (try simp only [Act.put, List.setIfInBounds_toArray, List.set_cons_zero, List.set_cons_succ])
  refine take_at 7 17 (.pointer (some ⟨w.heap.size + 1 + 1 + 1, 4, none⟩)) rfl rfl (by kernel_rfl) (by kernel_rfl) (by kernel_rfl) (fun _ _ _ h => h) (Or.inl ⟨by rfl, ?_⟩) hHeld ?_
  · intro w9 hSw
    (try dsimp only at hSw)
    go_simp
  (try simp only [Act.put, List.setIfInBounds_toArray, List.set_cons_zero, List.set_cons_succ])
  refine wpAnyH_ready (rs := [8]) (by kernel_rfl) (by simp) ?_
  refine AllReadyH.cons rfl (fun K hK => ?_) AllReadyH.nil
  go_simp
  refine hK.out _ _ ⟨(World.cell?_setCell_other _ _ _ _ (by simp)).trans hY4, (World.cell?_setCell_other _ _ _ _ (by simp)).trans hY6⟩ (fun hHeld => ?_)
  clear hK K
  refine take_at 9 18 (.pointer (some ⟨w.heap.size + 1 + 1 + 1, 0, none⟩)) rfl rfl (by kernel_rfl) (by kernel_rfl) (by kernel_rfl) (fun _ _ _ h => h) (Or.inl ⟨by rfl, ?_⟩) hHeld ?_
  · intro w9 hSw
    (try dsimp only at hSw)
    go_simp
  (try simp only [Act.put, List.setIfInBounds_toArray, List.set_cons_zero, List.set_cons_succ])
  refine take_at 10 19 (.pointer (some ⟨w.heap.size + 1 + 1 + 1, 6, none⟩)) rfl rfl (by kernel_rfl) (by kernel_rfl) (by kernel_rfl) (fun _ _ _ h => h) (Or.inl ⟨by rfl, ?_⟩) hHeld ?_
  · intro w9 hSw
    (try dsimp only at hSw)
    go_simp
  (try simp only [Act.put, List.setIfInBounds_toArray, List.set_cons_zero, List.set_cons_succ])
  refine wpAnyH_ready (rs := [11]) (by kernel_rfl) (by simp) ?_
  refine AllReadyH.cons rfl (fun K hK => ?_) AllReadyH.nil
  go_simp
  refine hK.out _ _ ⟨(World.cell?_setCell_other _ _ _ _ (by simp)).trans ((World.cell?_setCell_other _ _ _ _ (by simp)).trans hY4), (World.cell?_setCell_other _ _ _ _ (by simp)).trans ((World.cell?_setCell_other _ _ _ _ (by simp)).trans hY6)⟩ (fun hHeld => ?_)
  clear hK K
  refine wpAnyH_done (by kernel_rfl) ?_ _
  have hp3 := ((Mods.refl (Is (w.heap.size + 1 + 1 + 1)) W2).put 4 (.slice A1 regs.length c1)).put 6 (.slice A2 tr.length c2)
  have hlt0 : w.heap.size + 1 + 1 + 1 < W0.heap.size := HG.out.pr.lt
  have hO1 := HO1.out
  have hO2 := HO2.out
  have hI : Ip ((W2.setCell ⟨w.heap.size + 1 + 1 + 1, 4, none⟩ (.slice A1 regs.length c1)).setCell ⟨w.heap.size + 1 + 1 + 1, 6, none⟩ (.slice A2 tr.length c2)) (w.heap.size + 1 + 1 + 1) (w.heap.size + 1 + 1 + 1) A1 c1 SA sc A2 c2 BA nb bc ⟨st, blk, pos, val, regs, tr, steps⟩ :=
    ⟨(HG2.out.pr.put 4 _).put 6 _, ⟨hp3.ownS ((Mods.of_below (S := No) HB2.out).ownS (ownS_base hO1 (by show _ ≤ W0.heap.size; omega)) fun _ _ h => h) fun k hk hs => by have := (ownS_lt hO1 k hk).1; have h9 : W0.drew.heap.size = W0.heap.size := rfl; unfold Is at hs; omega, hp3.ownS (ownS_base hO2 (by omega)) fun k hk hs => by have := (ownS_lt hO2 k hk).1; unfold Is at hs; omega, fun k h1 h2 => by have := (ownS_lt hO1 k h1).2; have := (ownS_lt hO2 k h2).1; omega⟩, Nat.le_refl _⟩
  have hR3 := (HG2.out.res.far (q := ⟨w.heap.size + 1 + 1 + 1, 4, none⟩) (by show _ ≠ w.heap.size + 1 + 1 + 1; omega) (.slice A1 regs.length c1)).far (q := ⟨w.heap.size + 1 + 1 + 1, 6, none⟩) (by show _ ≠ w.heap.size + 1 + 1 + 1; omega) (.slice A2 tr.length c2)
  have hB3 := blwq (blwq HG2.out.below (q := w.heap.size + 1 + 1 + 1) (by omega) 4 (.slice A1 regs.length c1)) (q := w.heap.size + 1 + 1 + 1) (by omega) 6 (.slice A2 tr.length c2)
  have HI3 := Lib.hid hI
  have HR3 := Lib.hid hR3
  have HB3 := Lib.hid hB3
  clear hHeld hI hR3 hB3 hp3 hO1 hO2 hb1 HO1 HO2 HB2 HG2 HG1 HG s4 s6 q4 q6 hY4 hY6 d4 d6
  generalize (W2.setCell ⟨w.heap.size + 1 + 1 + 1, 4, none⟩ (.slice A1 regs.length c1)).setCell ⟨w.heap.size + 1 + 1 + 1, 6, none⟩ (.slice A2 tr.length c2) = W3 at *
  have f0 := HI3.out.row.cell 0
  simp only [List.getElem?_toArray, List.getElem?_cons_zero] at f0
  have hwz : w.heap.size + 1 + 1 + 1 < W3.heap.size := HI3.out.row.lt
  by_cases h0 : st = 0
  · subst h0
    have C3 := Lib.hid (HSt.out rfl W3 A1 A2 c1 c2 HI3.out (HS.out.below HB3.out))
    clear HSt HSN
    go_wp2_with fail
    refine C3.out.mono ?_
    rintro e W4 ⟨rfl, RB, rd, TB, td, hI4, hb4⟩
    have HI4 := Lib.hid hI4
    have HR4 := Lib.hid (HR3.out.below hb4 (by omega))
    have HB4 := Lib.hid (HB3.out.trans (hb4.mono (by omega)))
    clear hI4 hb4 HI3 HR3 HB3 f0 C3
    obtain ⟨st2, blk2, pos2, val2, regs2, tr2, steps2⟩ := r2
    have f0 := HI4.out.row.cell 0; have f1 := HI4.out.row.cell 1; have f2 := HI4.out.row.cell 2; have f3 := HI4.out.row.cell 3; have f4 := HI4.out.row.cell 4; have f5 := HI4.out.row.cell 5; have f6 := HI4.out.row.cell 6; have f7 := HI4.out.row.cell 7
    have g0 := HR4.out.cell 0; have g1 := HR4.out.cell 1; have g2 := HR4.out.cell 2; have g3 := HR4.out.cell 3; have g4 := HR4.out.cell 4; have g5 := HR4.out.cell 5; have g6 := HR4.out.cell 6; have g7 := HR4.out.cell 7
    have r0 := HR4.out.frozen 0; have r1 := HR4.out.frozen 1; have r2 := HR4.out.frozen 2; have r3 := HR4.out.frozen 3; have r4 := HR4.out.frozen 4; have r5 := HR4.out.frozen 5; have r6 := HR4.out.frozen 6; have r7 := HR4.out.frozen 7
    simp only [List.getElem?_toArray, List.getElem?_cons_zero, List.getElem?_cons_succ] at f0 f1 f2 f3 f4 f5 f6 f7 g0 g1 g2 g3 g4 g5 g6 g7
    go_wp2
    (try simp only [Exit.inBlock, Exit.then])
    refine bodyPost_ret (v := .agg #[.int .i64 st2, .int .i64 (blk2 : Int), .int .i64 (pos2 : Int), .int .i64 val2, .slice RB regs2.length rd, .slice SA 0 sc, .slice TB tr2.length td, .int .i64 (steps2 : Int)]) ?_ rfl ⟨RB, rd, SA, sc, TB, td, rfl, (HI4.out.v.mods (mods8 W4 (w.heap.size + 1 + 1) _ _ _ _ _ _ _ _) (fun k hk => .inl (by unfold Is at hk; omega))).base (by omega), ?_⟩
    · exact results_cell_row rfl _ _ (w.heap.size + 1 + 1) 29 #[.int .i64 st2, .int .i64 (blk2 : Int), .int .i64 (pos2 : Int), .int .i64 val2, .slice RB regs2.length rd, .slice SA 0 sc, .slice TB tr2.length td, .int .i64 (steps2 : Int)] (0, 0) _ rfl (HR4.out.put8 _ _ _ _ _ _ _ _) Try.underlying29 rfl (by kernel_rfl)
    · exact blw8 (by omega) HB4.out _ _ _ _ _ _ _ _
  · have h00 : (st == 0) = false := by simp [h0]
    obtain rfl := HSN.out h0
    have HI4 := HI3
    have HR4 := HR3
    have HB4 := HB3
    clear HSt HSN h0 f0 HI3 HR3 HB3
    have f0 := HI4.out.row.cell 0; have f1 := HI4.out.row.cell 1; have f2 := HI4.out.row.cell 2; have f3 := HI4.out.row.cell 3; have f4 := HI4.out.row.cell 4; have f5 := HI4.out.row.cell 5; have f6 := HI4.out.row.cell 6; have f7 := HI4.out.row.cell 7
    have g0 := HR4.out.cell 0; have g1 := HR4.out.cell 1; have g2 := HR4.out.cell 2; have g3 := HR4.out.cell 3; have g4 := HR4.out.cell 4; have g5 := HR4.out.cell 5; have g6 := HR4.out.cell 6; have g7 := HR4.out.cell 7
    have r0 := HR4.out.frozen 0; have r1 := HR4.out.frozen 1; have r2 := HR4.out.frozen 2; have r3 := HR4.out.frozen 3; have r4 := HR4.out.frozen 4; have r5 := HR4.out.frozen 5; have r6 := HR4.out.frozen 6; have r7 := HR4.out.frozen 7
    simp only [List.getElem?_toArray, List.getElem?_cons_zero, List.getElem?_cons_succ] at f0 f1 f2 f3 f4 f5 f6 f7 g0 g1 g2 g3 g4 g5 g6 g7
    go_wp2
    (try simp only [Exit.inBlock, Exit.then])
    refine bodyPost_ret (v := .agg #[.int .i64 st, .int .i64 (blk : Int), .int .i64 (pos : Int), .int .i64 val, .slice A1 regs.length c1, .slice SA 0 sc, .slice A2 tr.length c2, .int .i64 (steps : Int)]) ?_ rfl ⟨A1, c1, SA, sc, A2, c2, rfl, (HI4.out.v.mods (mods8 W3 (w.heap.size + 1 + 1) _ _ _ _ _ _ _ _) (fun k hk => .inl (by unfold Is at hk; omega))).base (by omega), ?_⟩
    · exact results_cell_row rfl _ _ (w.heap.size + 1 + 1) 29 #[.int .i64 st, .int .i64 (blk : Int), .int .i64 (pos : Int), .int .i64 val, .slice A1 regs.length c1, .slice SA 0 sc, .slice A2 tr.length c2, .int .i64 (steps : Int)] (0, 0) _ rfl (HR4.out.put8 _ _ _ _ _ _ _ _) Try.underlying29 rfl (by kernel_rfl)
    · exact blw8 (by omega) HB4.out _ _ _ _ _ _ _ _

end Go.Proofs.Ytfkknebjhcafhaa
