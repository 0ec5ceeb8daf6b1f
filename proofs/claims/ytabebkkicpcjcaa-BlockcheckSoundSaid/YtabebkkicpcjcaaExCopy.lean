/-
  The reference's Copy of runs with slots.
-/
import Derived.Test.YtabebkkicpcjcaaExFns
namespace Go.Proofs.Ytabebkkicpcjcaa
open Go.RowKit
set_option linter.unusedVariables false

/-- What Copy carries: the boxes, the copy with the slices x, y, z so far. -/
structure CpX (w : World) (r : Xn) (RA : Option Addr) (rc : Nat) (SA : Option Addr) (sc : Nat) (TA : Option Addr) (tc : Nat) (x y z : Value) (W : World) : Prop where
  below : Below w.heap.size w W
  box : Row W w.heap.size 56 #[.int .i64 r.st, .int .i64 (r.blk : Int), .int .i64 (r.pos : Int), .int .i64 r.val, .slice RA r.regs.length rc, .slice SA r.slots.length sc, .slice TA r.trace.length tc, .int .i64 (r.steps : Int)]
  res : Row W (w.heap.size + 1) 56 #[.int .i64 0, .int .i64 0, .int .i64 0, .int .i64 0, .slice none 0 0, .slice none 0 0, .slice none 0 0, .int .i64 0]
  out : Row W (w.heap.size + 1 + 1) 56 #[.int .i64 r.st, .int .i64 (r.blk : Int), .int .i64 (r.pos : Int), .int .i64 r.val, x, y, z, .int .i64 (r.steps : Int)]
section
variable {w W W' : World} {r : Xn} {RA SA TA : Option Addr} {rc sc tc : Nat} {x y z : Value}
theorem CpX.next (h : CpX w r RA rc SA sc TA tc x y z W) (hb : Below W.heap.size W W') : CpX w r RA rc SA sc TA tc x y z W' :=
  ⟨h.below.trans (hb.mono h.below.size), h.box.below hb h.box.lt, h.res.below hb h.res.lt, h.out.below hb h.out.lt⟩
theorem CpX.put4 (h : CpX w r RA rc SA sc TA tc x y z W) (u : Value) : CpX w r RA rc SA sc TA tc u y z (W.setCell ⟨w.heap.size + 1 + 1, 4, none⟩ u) :=
  ⟨h.below.setCell (by show _ ≤ w.heap.size + 1 + 1; omega) _, h.box.far (by show _ ≠ w.heap.size + 1 + 1; omega) _, h.res.far (by show _ ≠ w.heap.size + 1 + 1; omega) _, h.out.put 4 u⟩
theorem CpX.put5 (h : CpX w r RA rc SA sc TA tc x y z W) (u : Value) : CpX w r RA rc SA sc TA tc x u z (W.setCell ⟨w.heap.size + 1 + 1, 5, none⟩ u) :=
  ⟨h.below.setCell (by show _ ≤ w.heap.size + 1 + 1; omega) _, h.box.far (by show _ ≠ w.heap.size + 1 + 1; omega) _, h.res.far (by show _ ≠ w.heap.size + 1 + 1; omega) _, h.out.put 5 u⟩
theorem CpX.put6 (h : CpX w r RA rc SA sc TA tc x y z W) (u : Value) : CpX w r RA rc SA sc TA tc x y u (W.setCell ⟨w.heap.size + 1 + 1, 6, none⟩ u) :=
  ⟨h.below.setCell (by show _ ≤ w.heap.size + 1 + 1; omega) _, h.box.far (by show _ ≠ w.heap.size + 1 + 1; omega) _, h.res.far (by show _ ≠ w.heap.size + 1 + 1; omega) _, h.out.put 6 u⟩
theorem CpX.start (w : World) (r : Xn) (RA : Option Addr) (rc : Nat) (SA : Option Addr) (sc : Nat) (TA : Option Addr) (tc : Nat) :
    CpX w r RA rc SA sc TA tc (.slice RA r.regs.length rc) (.slice SA r.slots.length sc) (.slice TA r.trace.length tc) (((w.alloc (.cells #[.int .i64 r.st, .int .i64 (r.blk : Int), .int .i64 (r.pos : Int), .int .i64 r.val, .slice RA r.regs.length rc, .slice SA r.slots.length sc, .slice TA r.trace.length tc, .int .i64 (r.steps : Int)] 56)).alloc (.cells #[.int .i64 0, .int .i64 0, .int .i64 0, .int .i64 0, .slice none 0 0, .slice none 0 0, .slice none 0 0, .int .i64 0] 56)).alloc (.cells #[.int .i64 r.st, .int .i64 (r.blk : Int), .int .i64 (r.pos : Int), .int .i64 r.val, .slice RA r.regs.length rc, .slice SA r.slots.length sc, .slice TA r.trace.length tc, .int .i64 (r.steps : Int)] 56)) where
  below := (((Below.refl w.heap.size w).alloc (Nat.le_refl _) _).alloc (by simp) _).alloc (by simp; omega) _
  box := ((Row.new w _ _).alloc _).alloc _
  res := (Row.new' (p := w.heap.size + 1) (by simp) _ _).alloc _
  out := Row.new' (p := w.heap.size + 1 + 1) (by simp) _ _
end

set_option maxRecDepth 100000 in
set_option maxHeartbeats 2000000 in
theorem xcopy_any (r : Xn) (B : Nat) (RA SA TA : Option Addr) (rc sc tc : Nat) (w : World) (h1 : Sees w B RA (ints r.regs)) (h2 : Sees w B SA (ints r.slots)) (h3 : Sees w B TA (ints r.trace)) (hB : B ≤ w.heap.size) (hr : r.regs.length ≤ 1000000) (hsl : r.slots.length ≤ 1000000) (ht : r.trace.length ≤ 1000000) :
    Calls Try.prog 37 #[.agg #[.int .i64 r.st, .int .i64 (r.blk : Int), .int .i64 (r.pos : Int), .int .i64 r.val, .slice RA r.regs.length rc, .slice SA r.slots.length sc, .slice TA r.trace.length tc, .int .i64 (r.steps : Int)]] w (XP w r) := by
  obtain ⟨i0, hi, hz0, hz1, hz2⟩ := info_parts infoI64
  have hC0 := CpX.start w r RA rc SA sc TA tc
  obtain ⟨st, blk, pos, val, regs, sl, tr, steps⟩ := r
  dsimp only at *
  go_enter Try.func37, Try.ntmps37
  go_upto_region 2 with fail
  generalize (((w.alloc (.cells #[.int .i64 st, .int .i64 (blk : Int), .int .i64 (pos : Int), .int .i64 val, .slice RA regs.length rc, .slice SA sl.length sc, .slice TA tr.length tc, .int .i64 (steps : Int)] 56)).alloc (.cells #[.int .i64 0, .int .i64 0, .int .i64 0, .int .i64 0, .slice none 0 0, .slice none 0 0, .slice none 0 0, .int .i64 0] 56)).alloc (.cells #[.int .i64 st, .int .i64 (blk : Int), .int .i64 (pos : Int), .int .i64 val, .slice RA regs.length rc, .slice SA sl.length sc, .slice TA tr.length tc, .int .i64 (steps : Int)] 56)) = W0 at *
  have b4 := hC0.box.cell 4
  simp only [List.getElem?_toArray, List.getElem?_cons_zero, List.getElem?_cons_succ] at b4
  have hz : w.heap.size < W0.heap.size := hC0.box.lt
  have hs1 := ((h1.more hB).below hC0.below).alloc (by omega) (.cells #[] 2)
  have HC := Lib.hid hC0
  go_wp2_with (at_builtin; refine wpList_append_sees _ rfl (.tmp 5) (.tmp 7) 44 rfl W0.heap.size 2 i0 (.int .i64 0) 8 Try.underlying44 hi hz0 hz1 hz2 rfl _ _ _ rfl (own_empty W0 2 1) w.heap.size _ _ _ (ints regs) rfl hs1 (ints_length _) (ints_one _) ?c1 ?c2 ?c3 ?_)
  case c1 => unfold maxLen; omega
  case c2 => omega
  case c3 => simp
  intro v1 W1 ho1 hg1
  obtain ⟨A1, c1, rfl, ho1, hb1⟩ := app_new rfl ho1 hg1
  have hC1 := HC.out.next hb1
  have f4 := hC1.out.cell 4; have g4 := hC1.out.frozen 4
  simp only [List.getElem?_toArray, List.getElem?_cons_zero, List.getElem?_cons_succ] at f4
  have hp := (Mods.refl (Is (w.heap.size + 1 + 1)) W1).put 4 (.slice A1 regs.length c1)
  have hO1 := hp.ownS ho1 fun k hk hs => by have := ownS_lt ho1 k hk; have := hC0.out.lt; unfold Is at hs; omega
  have hC2 := hC1.put4 (.slice A1 regs.length c1)
  have hzs : W0.heap.size ≤ W1.heap.size := hb1.size
  clear hg1 HC hb1 b4 hs1 hp ho1 hC1
  have hz0' : w.heap.size + 1 + 1 < W0.heap.size := hC0.out.lt
  clear hC0
  go_upto_region 3 with fail
  generalize W1.setCell ⟨w.heap.size + 1 + 1, 4, none⟩ (.slice A1 regs.length c1) = W2 at *
  clear f4 g4
  have b5 := hC2.box.cell 5
  simp only [List.getElem?_toArray, List.getElem?_cons_zero, List.getElem?_cons_succ] at b5
  have hz5 : w.heap.size < W2.heap.size := hC2.box.lt
  have hs2 := ((h2.more hB).below hC2.below).alloc (by omega) (.cells #[] 2)
  have hlt1 := fun k hk => (ownS_lt hO1 k hk).2
  have HC := Lib.hid hC2
  have HO1 := Lib.hid hO1
  have HW2 := Lib.hid hC2.out.lt
  clear hC2 hO1 h1
  go_wp2_with (at_builtin; refine wpList_append_sees _ rfl (.tmp 10) (.tmp 12) 44 rfl W2.heap.size 2 i0 (.int .i64 0) 8 Try.underlying44 hi hz0 hz1 hz2 rfl _ _ _ rfl (own_empty W2 2 1) w.heap.size _ _ _ (ints sl) rfl hs2 (ints_length _) (ints_one _) ?c1 ?c2 ?c3 ?_)
  case c1 => unfold maxLen; omega
  case c2 => omega
  case c3 => simp
  intro v2 W3 ho2 hg2
  obtain ⟨A2, c2, rfl, ho2, hb2⟩ := app_new rfl ho2 hg2
  have hC1 := HC.out.next hb2
  have f4 := hC1.out.cell 5; have g4 := hC1.out.frozen 5
  simp only [List.getElem?_toArray, List.getElem?_cons_zero, List.getElem?_cons_succ] at f4
  have hp := (Mods.refl (Is (w.heap.size + 1 + 1)) W3).put 5 (.slice A2 sl.length c2)
  have hO1 := hp.ownS ((Mods.of_below (S := No) hb2).ownS HO1.out fun _ _ h => h) fun k hk hs => by have := ownS_lt HO1.out k hk; unfold Is at hs; omega
  have hO2 := hp.ownS ho2 fun k hk hs => by have := ownS_lt ho2 k hk; have := HW2.out; unfold Is at hs; omega
  have hge2 := fun k hk => (ownS_lt ho2 k hk).1
  have hC2 := hC1.put5 (.slice A2 sl.length c2)
  have hzs2 : W2.heap.size ≤ W3.heap.size := hb2.size
  clear hg2 HC hb2 b5 hp ho2 hC1 HO1 hs2
  go_upto_region 4 with fail
  generalize W3.setCell ⟨w.heap.size + 1 + 1, 5, none⟩ (.slice A2 sl.length c2) = W4 at *
  clear f4 g4
  have b6 := hC2.box.cell 6
  simp only [List.getElem?_toArray, List.getElem?_cons_zero, List.getElem?_cons_succ] at b6
  have hz6 : w.heap.size < W4.heap.size := hC2.box.lt
  have hs3 := ((h3.more hB).below hC2.below).alloc (by omega) (.cells #[] 2)
  have hlt1' := fun k hk => (ownS_lt hO1 k hk).2
  have hlt2 := fun k hk => (ownS_lt hO2 k hk).2
  have HC := Lib.hid hC2
  have HO1 := Lib.hid hO1
  have HO2 := Lib.hid hO2
  have HW4 := Lib.hid hC2.out.lt
  clear hC2 hO1 hO2 h3 hz5
  go_wp2_with (at_builtin; refine wpList_append_sees _ rfl (.tmp 15) (.tmp 17) 44 rfl W4.heap.size 2 i0 (.int .i64 0) 8 Try.underlying44 hi hz0 hz1 hz2 rfl _ _ _ rfl (own_empty W4 2 1) w.heap.size _ _ _ (ints tr) rfl hs3 (ints_length _) (ints_one _) ?c1 ?c2 ?c3 ?_)
  case c1 => unfold maxLen; omega
  case c2 => omega
  case c3 => simp
  intro v3 W5 ho3 hg3
  obtain ⟨A3, c3, rfl, ho3, hb3⟩ := app_new rfl ho3 hg3
  have hC1 := HC.out.next hb3
  have f4 := hC1.out.cell 6; have g4 := hC1.out.frozen 6
  simp only [List.getElem?_toArray, List.getElem?_cons_zero, List.getElem?_cons_succ] at f4
  have hp := (Mods.refl (Is (w.heap.size + 1 + 1)) W5).put 6 (.slice A3 tr.length c3)
  have hO1 := hp.ownS ((Mods.of_below (S := No) hb3).ownS HO1.out fun _ _ h => h) fun k hk hs => by have := ownS_lt HO1.out k hk; unfold Is at hs; omega
  have hO2 := hp.ownS ((Mods.of_below (S := No) hb3).ownS HO2.out fun _ _ h => h) fun k hk hs => by have := ownS_lt HO2.out k hk; have := HW2.out; unfold Is at hs; omega
  have hge3 := fun k hk => (ownS_lt ho3 k hk).1
  have hO3 := hp.ownS ho3 fun k hk hs => by have := hge3 k hk; have := HW4.out; unfold Is at hs; omega
  have hC2 := hC1.put6 (.slice A3 tr.length c3)
  have hV : XV (W5.setCell ⟨w.heap.size + 1 + 1, 6, none⟩ (.slice A3 tr.length c3)) (w.heap.size + 1 + 1) A1 c1 A2 c2 A3 c3 ⟨st, blk, pos, val, regs, sl, tr, steps⟩ :=
    ⟨ownS_base hO1 (by omega), ownS_base hO2 (by have := HW2.out; omega), ownS_base hO3 (by have := HW4.out; omega), fun k g1 g2 => by have := hlt1 k g1; have := hge2 k g2; omega, fun k g1 g2 => by have := hlt1' k g1; have := hge3 k g2; omega, fun k g1 g2 => by have := hlt2 k g1; have := hge3 k g2; omega⟩
  clear hg3 HC hb3 b6 hp ho3 hC1 HO1 HO2 hlt1 hlt1' hlt2 hge2 hge3 hO1 hO2 hO3 hs3
  go_upto_region 5 with fail
  generalize W5.setCell ⟨w.heap.size + 1 + 1, 6, none⟩ (.slice A3 tr.length c3) = W6 at *
  clear f4 g4
  have f0 := hC2.out.cell 0; have f1 := hC2.out.cell 1; have f2 := hC2.out.cell 2; have f3 := hC2.out.cell 3; have f4 := hC2.out.cell 4; have f5 := hC2.out.cell 5; have f6 := hC2.out.cell 6; have f7 := hC2.out.cell 7
  have g0 := hC2.res.cell 0; have g1 := hC2.res.cell 1; have g2 := hC2.res.cell 2; have g3 := hC2.res.cell 3; have g4 := hC2.res.cell 4; have g5 := hC2.res.cell 5; have g6 := hC2.res.cell 6; have g7 := hC2.res.cell 7
  have r0 := hC2.res.frozen 0; have r1 := hC2.res.frozen 1; have r2 := hC2.res.frozen 2; have r3 := hC2.res.frozen 3; have r4 := hC2.res.frozen 4; have r5 := hC2.res.frozen 5; have r6 := hC2.res.frozen 6; have r7 := hC2.res.frozen 7
  simp only [List.getElem?_toArray, List.getElem?_cons_zero, List.getElem?_cons_succ] at f0 f1 f2 f3 f4 f5 f6 f7 g0 g1 g2 g3 g4 g5 g6 g7
  have HC := Lib.hid hC2
  have HV := Lib.hid hV
  clear hC2 hV
  go_wp2
  (try simp only [Exit.inBlock, Exit.then])
  refine bodyPost_ret (v := .agg #[.int .i64 st, .int .i64 (blk : Int), .int .i64 (pos : Int), .int .i64 val, .slice A1 regs.length c1, .slice A2 sl.length c2, .slice A3 tr.length c3, .int .i64 (steps : Int)]) ?_ rfl ⟨A1, c1, A2, c2, A3, c3, rfl, (HV.out.mods (mods8 W6 (w.heap.size + 1) _ _ _ _ _ _ _ _) (fun k hk => .inl (by unfold Is at hk; omega))).base (by omega), ?_⟩
  · exact results_cell_row rfl _ _ (w.heap.size + 1) 56 #[.int .i64 st, .int .i64 (blk : Int), .int .i64 (pos : Int), .int .i64 val, .slice A1 regs.length c1, .slice A2 sl.length c2, .slice A3 tr.length c3, .int .i64 (steps : Int)] (0, 0) _ rfl (HC.out.res.put8 _ _ _ _ _ _ _ _) Try.underlying56 rfl (by kernel_rfl)
  · exact blw8 (by omega) HC.out.below _ _ _ _ _ _ _ _

end Go.Proofs.Ytabebkkicpcjcaa
