/-
  The program's Step.
-/
import Derived.Test.YtcimjghejclknaaExStep
import Derived.Test.YtcimjghejclknaaRunFns
namespace Go.Proofs.Ytcimjghejclknaa
open Go.RowKit
set_option linter.unusedVariables false
set_option linter.unusedSimpArgs false

/-- What Step carries: the run's box, the result, the executor, the slices that came in. -/
structure StX (w : World) (RA : Option Addr) (rc : Nat) (SA : Option Addr) (sc : Nat) (TA : Option Addr) (tc : Nat) (BA : Option Addr) (bl bc : Nat) (r : Xn) (W : World) : Prop where
  below : Below w.heap.size w W
  bx : Row W (w.heap.size + 1) 29 #[.int .i64 r.st, .int .i64 (r.blk : Int), .int .i64 (r.pos : Int), .int .i64 r.val, .slice RA r.regs.length rc, .slice SA r.slots.length sc, .slice TA r.trace.length tc, .int .i64 (r.steps : Int)]
  res : Row W (w.heap.size + 1 + 1) 29 #[.int .i64 0, .int .i64 0, .int .i64 0, .int .i64 0, .slice none 0 0, .slice none 0 0, .slice none 0 0, .int .i64 0]
  pr : Row W (w.heap.size + 1 + 1 + 1) exT #[.int .i64 r.st, .int .i64 (r.blk : Int), .int .i64 (r.pos : Int), .int .i64 r.val, .slice RA r.regs.length rc, .slice SA r.slots.length sc, .slice TA r.trace.length tc, .int .i64 (r.steps : Int), .slice BA bl bc]
  v : ∃ lo, XV W lo RA rc SA sc TA tc r
section
variable {w W W' : World} {RA SA TA BA : Option Addr} {rc sc tc bl bc : Nat} {r : Xn}
theorem StX.next (h : StX w RA rc SA sc TA tc BA bl bc r W) (hb : Below W.heap.size W W') : StX w RA rc SA sc TA tc BA bl bc r W' :=
  ⟨h.below.trans (hb.mono h.below.size), h.bx.below hb h.bx.lt, h.res.below hb h.res.lt, h.pr.below hb h.pr.lt, by obtain ⟨lo, hv⟩ := h.v; exact ⟨lo, hv.below hb⟩⟩
theorem StX.drewN (h : StX w RA rc SA sc TA tc BA bl bc r W) (n : Nat) : StX w RA rc SA sc TA tc BA bl bc r (W.drewN n) := h.next (blw_drewN (Below.refl _ _) n)
theorem StX.drew (h : StX w RA rc SA sc TA tc BA bl bc r W) : StX w RA rc SA sc TA tc BA bl bc r W.drew := h.drewN 1
theorem StX.start {lo : Nat} (hV : XV w lo RA rc SA sc TA tc r) (BA : Option Addr) (bl bc : Nat) (args regs0 slots0 : Int) : StX w RA rc SA sc TA tc BA bl bc r ((((w.alloc (.cells #[.int .i64 args, .int .i64 regs0, .int .i64 slots0, .slice BA bl bc] 24)).alloc (.cells #[.int .i64 r.st, .int .i64 (r.blk : Int), .int .i64 (r.pos : Int), .int .i64 r.val, .slice RA r.regs.length rc, .slice SA r.slots.length sc, .slice TA r.trace.length tc, .int .i64 (r.steps : Int)] 29)).alloc (.cells #[.int .i64 0, .int .i64 0, .int .i64 0, .int .i64 0, .slice none 0 0, .slice none 0 0, .slice none 0 0, .int .i64 0] 29)).alloc (.cells #[.int .i64 r.st, .int .i64 (r.blk : Int), .int .i64 (r.pos : Int), .int .i64 r.val, .slice RA r.regs.length rc, .slice SA r.slots.length sc, .slice TA r.trace.length tc, .int .i64 (r.steps : Int), .slice BA bl bc] exT)) :=
  have hb := (((((Below.refl w.heap.size w).alloc (Nat.le_refl _) (.cells #[.int .i64 args, .int .i64 regs0, .int .i64 slots0, .slice BA bl bc] 24)).alloc (by simp) (.cells #[.int .i64 r.st, .int .i64 (r.blk : Int), .int .i64 (r.pos : Int), .int .i64 r.val, .slice RA r.regs.length rc, .slice SA r.slots.length sc, .slice TA r.trace.length tc, .int .i64 (r.steps : Int)] 29)).alloc (by simp; omega) (.cells #[.int .i64 0, .int .i64 0, .int .i64 0, .int .i64 0, .slice none 0 0, .slice none 0 0, .slice none 0 0, .int .i64 0] 29)).alloc (by simp; omega) (.cells #[.int .i64 r.st, .int .i64 (r.blk : Int), .int .i64 (r.pos : Int), .int .i64 r.val, .slice RA r.regs.length rc, .slice SA r.slots.length sc, .slice TA r.trace.length tc, .int .i64 (r.steps : Int), .slice BA bl bc] exT))
  ⟨hb, ((Row.new' (p := w.heap.size + 1) (by simp) _ _).alloc _).alloc _, (Row.new' (p := w.heap.size + 1 + 1) (by simp) _ _).alloc _, Row.new' (p := w.heap.size + 1 + 1 + 1) (by simp) _ _, lo, hV.below hb⟩
end

set_option maxRecDepth 100000 in
set_option maxHeartbeats 4000000 in
theorem xstepi_any (bs : List MBlk) (r : Xn) (B lo : Nat) (args regs0 slots0 : Int) (RA SA TA BA : Option Addr) (rc sc tc bc : Nat) (w : World) (hV : XV w lo RA rc SA sc TA tc r) (hs : MBlksAt w B BA bs) (hB : B ≤ w.heap.size) (hF : OkM r.regs.length r.slots.length bs) (hG : GoodX r.regs.length r.slots.length bs r) (hst : r.steps ≤ 1000000) (hrl : r.regs.length ≤ 1000000) (hsl : r.slots.length ≤ 1000000) (hn : mcodeN bs ≤ 1000000) (hm : bs.length ≤ 1000) :
    Calls Try.prog 19 #[.agg #[.int .i64 args, .int .i64 regs0, .int .i64 slots0, .slice BA bs.length bc], .agg #[.int .i64 r.st, .int .i64 (r.blk : Int), .int .i64 (r.pos : Int), .int .i64 r.val, .slice RA r.regs.length rc, .slice SA r.slots.length sc, .slice TA r.trace.length tc, .int .i64 (r.steps : Int)]] w (XP w (stepX bs r)) := by
  have htr : r.trace.length ≤ 1000000 := Nat.le_trans hG.tr hst
  have HG0 := Lib.hid (StX.start hV BA bs.length bc args regs0 slots0)
  have HS := Lib.hid (hs.more hB)
  have HSt := Lib.hid fun (hst0 : r.st = 0) (W : World) (RB SB TB : Option Addr) (rd sd td : Nat) (hI : Xp W (w.heap.size + 1 + 1 + 1) (w.heap.size + 1 + 1 + 1) exT [.slice BA bs.length bc] RB rd SB sd TB td r) (hs : MBlksAt W w.heap.size BA bs) => xstep_any bs r w.heap.size (w.heap.size + 1 + 1 + 1) (w.heap.size + 1 + 1 + 1) RB SB TB BA rd sd td bc W hI hs (by omega) hF hG hst0 hst hrl hsl hn hm
  have HSN := Lib.hid fun h => stepX_stop (bs := bs) (r := r) h
  generalize hR2 : stepX bs r = r2 at *
  clear hV hs hF hG hR2
  obtain ⟨st, blk, pos, val, regs, sl, tr, steps⟩ := r
  dsimp only at *
  generalize hL : bs.length = nb at *
  have HL := Lib.hid hL
  clear hL
  go_enter Try.func19, Try.ntmps19
  go_upto_region 2 with fail
  generalize ((((w.alloc (.cells #[.int .i64 args, .int .i64 regs0, .int .i64 slots0, .slice BA nb bc] 24)).alloc (.cells #[.int .i64 st, .int .i64 (blk : Int), .int .i64 (pos : Int), .int .i64 val, .slice RA regs.length rc, .slice SA sl.length sc, .slice TA tr.length tc, .int .i64 (steps : Int)] 29)).alloc (.cells #[.int .i64 0, .int .i64 0, .int .i64 0, .int .i64 0, .slice none 0 0, .slice none 0 0, .slice none 0 0, .int .i64 0] 29)).alloc (.cells #[.int .i64 st, .int .i64 (blk : Int), .int .i64 (pos : Int), .int .i64 val, .slice RA regs.length rc, .slice SA sl.length sc, .slice TA tr.length tc, .int .i64 (steps : Int), .slice BA nb bc] 60)) = W0 at *
  have hG := HG0.out
  have HGC : Hid (∀ W, StX w RA rc SA sc TA tc BA nb bc ⟨st, blk, pos, val, regs, sl, tr, steps⟩ W → W.cell? ⟨w.heap.size + 1, 4, none⟩ = some (.slice RA regs.length rc) ∧ W.cell? ⟨w.heap.size + 1, 5, none⟩ = some (.slice SA sl.length sc) ∧ W.cell? ⟨w.heap.size + 1, 6, none⟩ = some (.slice TA tr.length tc)) := fun W h => ⟨h.bx.cell 4, h.bx.cell 5, h.bx.cell 6⟩
  obtain ⟨d4, d5, d6⟩ := HGC.out _ hG
  have HQ : Hid (∀ W, StX w RA rc SA sc TA tc BA nb bc ⟨st, blk, pos, val, regs, sl, tr, steps⟩ W → W.cell? ⟨w.heap.size + 1 + 1 + 1, 4, none⟩ = some (.slice RA regs.length rc) ∧ W.cell? ⟨w.heap.size + 1 + 1 + 1, 5, none⟩ = some (.slice SA sl.length sc) ∧ W.cell? ⟨w.heap.size + 1 + 1 + 1, 6, none⟩ = some (.slice TA tr.length tc) ∧ W.frozen? ⟨w.heap.size + 1 + 1 + 1, 4, none⟩ = false ∧ W.frozen? ⟨w.heap.size + 1 + 1 + 1, 5, none⟩ = false ∧ W.frozen? ⟨w.heap.size + 1 + 1 + 1, 6, none⟩ = false) := fun W h =>
    ⟨h.pr.cell 4, h.pr.cell 5, h.pr.cell 6, h.pr.frozen 4, h.pr.frozen 5, h.pr.frozen 6⟩
  have C1 := Lib.hid fun W (h : StX w RA rc SA sc TA tc BA nb bc ⟨st, blk, pos, val, regs, sl, tr, steps⟩ W) => (show Calls Try.prog 29 #[.slice RA regs.length rc] W fun e w' => ∃ A c, e = .returned (.slice A regs.length c) ∧ w'.ownsRow W.heap.size 2 1 (.slice A regs.length c) regs.length (ints regs) ∧ Below W.heap.size W w' ∧ StX w RA rc SA sc TA tc BA nb bc ⟨st, blk, pos, val, regs, sl, tr, steps⟩ w' from (by obtain ⟨lo, hv⟩ := h.v; exact (clone_any regs hv.regs hrl).mono fun e w' ⟨A, c, he, ho, hb⟩ => ⟨A, c, he, ho, hb, h.next hb⟩))
  have C2 := Lib.hid fun W (h : StX w RA rc SA sc TA tc BA nb bc ⟨st, blk, pos, val, regs, sl, tr, steps⟩ W) => (show Calls Try.prog 29 #[.slice SA sl.length sc] W fun e w' => ∃ A c, e = .returned (.slice A sl.length c) ∧ w'.ownsRow W.heap.size 2 1 (.slice A sl.length c) sl.length (ints sl) ∧ Below W.heap.size W w' ∧ StX w RA rc SA sc TA tc BA nb bc ⟨st, blk, pos, val, regs, sl, tr, steps⟩ w' from (by obtain ⟨lo, hv⟩ := h.v; exact (clone_any sl hv.slots hsl).mono fun e w' ⟨A, c, he, ho, hb⟩ => ⟨A, c, he, ho, hb, h.next hb⟩))
  have C3 := Lib.hid fun W (h : StX w RA rc SA sc TA tc BA nb bc ⟨st, blk, pos, val, regs, sl, tr, steps⟩ W) => (show Calls Try.prog 29 #[.slice TA tr.length tc] W fun e w' => ∃ A c, e = .returned (.slice A tr.length c) ∧ w'.ownsRow W.heap.size 2 1 (.slice A tr.length c) tr.length (ints tr) ∧ Below W.heap.size W w' ∧ StX w RA rc SA sc TA tc BA nb bc ⟨st, blk, pos, val, regs, sl, tr, steps⟩ w' from (by obtain ⟨lo, hv⟩ := h.v; exact (clone_any tr hv.trace htr).mono fun e w' ⟨A, c, he, ho, hb⟩ => ⟨A, c, he, ho, hb, h.next hb⟩))
  have HSC : Hid (∀ (W : World) (i : Nat) (u : Value), W.cell? ⟨w.heap.size + 1, 4, none⟩ = some (.slice RA regs.length rc) ∧ W.cell? ⟨w.heap.size + 1, 5, none⟩ = some (.slice SA sl.length sc) ∧ W.cell? ⟨w.heap.size + 1, 6, none⟩ = some (.slice TA tr.length tc) → (W.setCell ⟨w.heap.size + 1 + 1 + 1, i, none⟩ u).cell? ⟨w.heap.size + 1, 4, none⟩ = some (.slice RA regs.length rc) ∧ (W.setCell ⟨w.heap.size + 1 + 1 + 1, i, none⟩ u).cell? ⟨w.heap.size + 1, 5, none⟩ = some (.slice SA sl.length sc) ∧ (W.setCell ⟨w.heap.size + 1 + 1 + 1, i, none⟩ u).cell? ⟨w.heap.size + 1, 6, none⟩ = some (.slice TA tr.length tc)) := fun W i u h =>
    ⟨(World.cell?_setCell_other _ _ _ _ (by simp)).trans h.1, (World.cell?_setCell_other _ _ _ _ (by simp)).trans h.2.1, (World.cell?_setCell_other _ _ _ _ (by simp)).trans h.2.2⟩
  go_region_held3 (fun w' => w'.cell? ⟨w.heap.size + 1, 4, none⟩ = some (.slice RA regs.length rc) ∧ w'.cell? ⟨w.heap.size + 1, 5, none⟩ = some (.slice SA sl.length sc) ∧ w'.cell? ⟨w.heap.size + 1, 6, none⟩ = some (.slice TA tr.length tc)) (first | exact HGC.out _ hG | exact HGC.out _ hG.drew | exact HGC.out _ (hG.drewN _) | exact HSC.out _ _ _ (HGC.out _ hG) | exact HSC.out _ _ _ (HSC.out _ _ _ (HGC.out _ hG)) | exact HSC.out _ _ _ (HSC.out _ _ _ (HSC.out _ _ _ (HGC.out _ hG)))) (first
    | (go_at_call 29; go_must ((first
        | ((with_reducible refine (C1.out _ (by first | exact hG | exact hG.drew | exact hG.drewN _)).mono ?_); rintro e W1 ⟨A1, c1, rfl, ho1, hb1, hG⟩)
        | ((with_reducible refine (C2.out _ (by first | exact hG | exact hG.drew | exact hG.drewN _)).mono ?_); rintro e W2 ⟨A2, c2, rfl, ho2, hb2, hG⟩)
        | ((with_reducible refine (C3.out _ (by first | exact hG | exact hG.drew | exact hG.drewN _)).mono ?_); rintro e W3 ⟨A3, c3, rfl, ho3, hb3, hG⟩; obtain ⟨q4, q5, q6, f4, f5, f6⟩ := HQ.out _ hG))))
    )
  have hz0 : w.heap.size + 1 + 1 + 1 < W0.heap.size := HG0.out.pr.lt
  have hz1 : W0.heap.size ≤ W1.heap.size := hb1.size
  have hz2 : W1.heap.size ≤ W2.heap.size := hb2.size
  have ho1' : W1.ownsRow W0.heap.size 2 1 (.slice A1 regs.length c1) regs.length (ints regs) := ho1
  have hx1 := (Mods.of_below (S := No) (hb2.trans (hb3.mono hb2.size))).ownS ho1' fun _ _ h => h
  have hx2 := (Mods.of_below (S := No) hb3).ownS ho2 fun _ _ h => h
  have hp3 := (((Mods.refl (Is (w.heap.size + 1 + 1 + 1)) W3).put 4 (.slice A1 regs.length c1)).put 5 (.slice A2 sl.length c2)).put 6 (.slice A3 tr.length c3)
  have hI : Xp (((W3.setCell ⟨w.heap.size + 1 + 1 + 1, 4, none⟩ (.slice A1 regs.length c1)).setCell ⟨w.heap.size + 1 + 1 + 1, 5, none⟩ (.slice A2 sl.length c2)).setCell ⟨w.heap.size + 1 + 1 + 1, 6, none⟩ (.slice A3 tr.length c3)) (w.heap.size + 1 + 1 + 1) (w.heap.size + 1 + 1 + 1) exT [.slice BA nb bc] A1 c1 A2 c2 A3 c3 ⟨st, blk, pos, val, regs, sl, tr, steps⟩ := by
    refine ⟨((hG.pr.put 4 _).put 5 _).put 6 _, ⟨?_, ?_, ?_, fun k h1 h2 => ?_, fun k h1 h2 => ?_, fun k h1 h2 => ?_⟩, Nat.le_refl _, by decide⟩
    · exact hp3.ownS (ownS_base hx1 (by omega)) fun k hk hs => by have := (ownS_lt ho1' k hk).1; unfold Is at hs; omega
    · exact hp3.ownS (ownS_base hx2 (by omega)) fun k hk hs => by have := (ownS_lt ho2 k hk).1; unfold Is at hs; omega
    · exact hp3.ownS (ownS_base ho3 (by omega)) fun k hk hs => by have := (ownS_lt ho3 k hk).1; unfold Is at hs; omega
    · have := (ownS_lt ho1' k h1).2; have := (ownS_lt ho2 k h2).1; omega
    · have := (ownS_lt ho1' k h1).2; have := (ownS_lt ho3 k h2).1; omega
    · have := (ownS_lt ho2 k h1).2; have := (ownS_lt ho3 k h2).1; omega
  have hR3 := hG.res.mods hp3 (by unfold Is; omega)
  have hB3 := blwq (blwq (blwq hG.below (q := w.heap.size + 1 + 1 + 1) (by omega) 4 (.slice A1 regs.length c1)) (q := w.heap.size + 1 + 1 + 1) (by omega) 5 (.slice A2 sl.length c2)) (q := w.heap.size + 1 + 1 + 1) (by omega) 6 (.slice A3 tr.length c3)
  have HI3 := Lib.hid hI
  have HR3 := Lib.hid hR3
  have HB3 := Lib.hid hB3
  clear hI hR3 hB3 hp3 hx1 hx2 ho1' ho1 ho2 ho3 hb1 hb2 hb3 hG q4 q5 q6 f4 f5 f6 C1 C2 C3 HGC HQ HSC HG0 d4 d5 d6 hz1 hz2 hz0
  generalize (((W3.setCell ⟨w.heap.size + 1 + 1 + 1, 4, none⟩ (.slice A1 regs.length c1)).setCell ⟨w.heap.size + 1 + 1 + 1, 5, none⟩ (.slice A2 sl.length c2)).setCell ⟨w.heap.size + 1 + 1 + 1, 6, none⟩ (.slice A3 tr.length c3)) = W4 at *
  obtain ⟨f0, _⟩ := HI3.out.cells
  dsimp only at f0
  have hwz : w.heap.size + 1 + 1 + 1 < W4.heap.size := HI3.out.row.lt
  by_cases h0 : st = 0
  · subst h0
    have C3 := Lib.hid (HSt.out rfl W4 A1 A2 A3 c1 c2 c3 HI3.out (HS.out.below HB3.out))
    clear HSt HSN
    go_wp2_with fail
    refine C3.out.mono ?_
    rintro e W5 ⟨rfl, RB, rd, SB, sd, TB, td, hI4, hb4⟩
    have HI4 := Lib.hid hI4
    have HR4 := Lib.hid (HR3.out.below hb4 (by omega))
    have HB4 := Lib.hid (HB3.out.trans (hb4.mono (by omega)))
    clear hI4 hb4 HI3 HR3 HB3 f0 C3
    obtain ⟨st2, blk2, pos2, val2, regs2, sl2, tr2, steps2⟩ := r2
    obtain ⟨f0, f1, f2, f3, f4, f5, f6, f7⟩ := HI4.out.cells
    dsimp only at f0 f1 f2 f3 f4 f5 f6 f7
    have g0 := HR4.out.cell 0; have g1 := HR4.out.cell 1; have g2 := HR4.out.cell 2; have g3 := HR4.out.cell 3; have g4 := HR4.out.cell 4; have g5 := HR4.out.cell 5; have g6 := HR4.out.cell 6; have g7 := HR4.out.cell 7
    have r0 := HR4.out.frozen 0; have r1 := HR4.out.frozen 1; have r2 := HR4.out.frozen 2; have r3 := HR4.out.frozen 3; have r4 := HR4.out.frozen 4; have r5 := HR4.out.frozen 5; have r6 := HR4.out.frozen 6; have r7 := HR4.out.frozen 7
    simp only [List.getElem?_toArray, List.getElem?_cons_zero, List.getElem?_cons_succ] at g0 g1 g2 g3 g4 g5 g6 g7
    go_wp2
    (try simp only [Exit.inBlock, Exit.then])
    refine bodyPost_ret (v := .agg #[.int .i64 st2, .int .i64 (blk2 : Int), .int .i64 (pos2 : Int), .int .i64 val2, .slice RB regs2.length rd, .slice SB sl2.length sd, .slice TB tr2.length td, .int .i64 (steps2 : Int)]) ?_ rfl ⟨RB, rd, SB, sd, TB, td, rfl, (HI4.out.v.mods (mods8 W5 (w.heap.size + 1 + 1) _ _ _ _ _ _ _ _) (fun k hk => .inl (by unfold Is at hk; omega))).base (by omega), ?_⟩
    · exact results_cell_row rfl _ _ (w.heap.size + 1 + 1) 29 #[.int .i64 st2, .int .i64 (blk2 : Int), .int .i64 (pos2 : Int), .int .i64 val2, .slice RB regs2.length rd, .slice SB sl2.length sd, .slice TB tr2.length td, .int .i64 (steps2 : Int)] (0, 0) _ rfl (HR4.out.put8 _ _ _ _ _ _ _ _) Try.underlying29 rfl (by kernel_rfl)
    · exact blw8 (by omega) HB4.out _ _ _ _ _ _ _ _
  · have h00 : (st == 0) = false := by simp [h0]
    obtain rfl := HSN.out h0
    have HI4 := HI3
    have HR4 := HR3
    have HB4 := HB3
    clear HSt HSN h0 f0 HI3 HR3 HB3
    obtain ⟨f0, f1, f2, f3, f4, f5, f6, f7⟩ := HI4.out.cells
    dsimp only at f0 f1 f2 f3 f4 f5 f6 f7
    have g0 := HR4.out.cell 0; have g1 := HR4.out.cell 1; have g2 := HR4.out.cell 2; have g3 := HR4.out.cell 3; have g4 := HR4.out.cell 4; have g5 := HR4.out.cell 5; have g6 := HR4.out.cell 6; have g7 := HR4.out.cell 7
    have r0 := HR4.out.frozen 0; have r1 := HR4.out.frozen 1; have r2 := HR4.out.frozen 2; have r3 := HR4.out.frozen 3; have r4 := HR4.out.frozen 4; have r5 := HR4.out.frozen 5; have r6 := HR4.out.frozen 6; have r7 := HR4.out.frozen 7
    simp only [List.getElem?_toArray, List.getElem?_cons_zero, List.getElem?_cons_succ] at g0 g1 g2 g3 g4 g5 g6 g7
    go_wp2
    (try simp only [Exit.inBlock, Exit.then])
    refine bodyPost_ret (v := .agg #[.int .i64 st, .int .i64 (blk : Int), .int .i64 (pos : Int), .int .i64 val, .slice A1 regs.length c1, .slice A2 sl.length c2, .slice A3 tr.length c3, .int .i64 (steps : Int)]) ?_ rfl ⟨A1, c1, A2, c2, A3, c3, rfl, (HI4.out.v.mods (mods8 W4 (w.heap.size + 1 + 1) _ _ _ _ _ _ _ _) (fun k hk => .inl (by unfold Is at hk; omega))).base (by omega), ?_⟩
    · exact results_cell_row rfl _ _ (w.heap.size + 1 + 1) 29 #[.int .i64 st, .int .i64 (blk : Int), .int .i64 (pos : Int), .int .i64 val, .slice A1 regs.length c1, .slice A2 sl.length c2, .slice A3 tr.length c3, .int .i64 (steps : Int)] (0, 0) _ rfl (HR4.out.put8 _ _ _ _ _ _ _ _) Try.underlying29 rfl (by kernel_rfl)
    · exact blw8 (by omega) HB4.out _ _ _ _ _ _ _ _

end Go.Proofs.Ytcimjghejclknaa
