/-
  The reference's Copy of a run.
-/
import Derived.Test.YtabebkkicpcjcaaRunFns
import Derived.Deep.Cut
import Derived.Deep.CutRange
namespace Go.Proofs.Ytabebkkicpcjcaa
open Go.RowKit
set_option linter.unusedVariables false

section
variable {w W W' : World} {p B : Nat} {T : TypeId} {z0 z1 z2 z3 z4 z5 z6 z7 : Value}
theorem Row.put8 (h : Row W p T #[z0, z1, z2, z3, z4, z5, z6, z7]) (a0 a1 a2 a3 a4 a5 a6 a7 : Value) :
    Row ((((((((W.setCell ⟨p, 0, none⟩ a0).setCell ⟨p, 1, none⟩ a1).setCell ⟨p, 2, none⟩ a2).setCell ⟨p, 3, none⟩ a3).setCell ⟨p, 4, none⟩ a4).setCell ⟨p, 5, none⟩ a5).setCell ⟨p, 6, none⟩ a6).setCell ⟨p, 7, none⟩ a7) p T #[a0, a1, a2, a3, a4, a5, a6, a7] := by
  have q0 : Row _ p T #[a0, z1, z2, z3, z4, z5, z6, z7] := h.put 0 a0
  have q1 : Row _ p T #[a0, a1, z2, z3, z4, z5, z6, z7] := q0.put 1 a1
  have q2 : Row _ p T #[a0, a1, a2, z3, z4, z5, z6, z7] := q1.put 2 a2
  have q3 : Row _ p T #[a0, a1, a2, a3, z4, z5, z6, z7] := q2.put 3 a3
  have q4 : Row _ p T #[a0, a1, a2, a3, a4, z5, z6, z7] := q3.put 4 a4
  have q5 : Row _ p T #[a0, a1, a2, a3, a4, a5, z6, z7] := q4.put 5 a5
  have q6 : Row _ p T #[a0, a1, a2, a3, a4, a5, a6, z7] := q5.put 6 a6
  exact q6.put 7 a7
theorem mods8 (W : World) (p : Nat) (a0 a1 a2 a3 a4 a5 a6 a7 : Value) :
    Mods (Is p) W ((((((((W.setCell ⟨p, 0, none⟩ a0).setCell ⟨p, 1, none⟩ a1).setCell ⟨p, 2, none⟩ a2).setCell ⟨p, 3, none⟩ a3).setCell ⟨p, 4, none⟩ a4).setCell ⟨p, 5, none⟩ a5).setCell ⟨p, 6, none⟩ a6).setCell ⟨p, 7, none⟩ a7) :=
  ((((((((Mods.refl _ W).put 0 a0).put 1 a1).put 2 a2).put 3 a3).put 4 a4).put 5 a5).put 6 a6).put 7 a7
theorem blw8 (hp : B ≤ p) (h : Below B w W) (a0 a1 a2 a3 a4 a5 a6 a7 : Value) :
    Below B w ((((((((W.setCell ⟨p, 0, none⟩ a0).setCell ⟨p, 1, none⟩ a1).setCell ⟨p, 2, none⟩ a2).setCell ⟨p, 3, none⟩ a3).setCell ⟨p, 4, none⟩ a4).setCell ⟨p, 5, none⟩ a5).setCell ⟨p, 6, none⟩ a6).setCell ⟨p, 7, none⟩ a7) :=
  (((((((h.setCell (p := ⟨p, 0, none⟩) hp a0).setCell (p := ⟨p, 1, none⟩) hp a1).setCell (p := ⟨p, 2, none⟩) hp a2).setCell (p := ⟨p, 3, none⟩) hp a3).setCell (p := ⟨p, 4, none⟩) hp a4).setCell (p := ⟨p, 5, none⟩) hp a5).setCell (p := ⟨p, 6, none⟩) hp a6).setCell (p := ⟨p, 7, none⟩) hp a7
end

/-- What Copy carries: the boxes, the copy with the slices x, y, z so far. -/
structure CpS (w : World) (r : Rn) (RA : Option Addr) (rc : Nat) (SA : Option Addr) (sc : Nat) (TA : Option Addr) (tc : Nat) (x y z : Value) (W : World) : Prop where
  below : Below w.heap.size w W
  box : Row W w.heap.size 56 #[.int .i64 r.st, .int .i64 (r.blk : Int), .int .i64 (r.pos : Int), .int .i64 r.val, .slice RA r.regs.length rc, .slice SA 0 sc, .slice TA r.trace.length tc, .int .i64 (r.steps : Int)]
  res : Row W (w.heap.size + 1) 56 #[.int .i64 0, .int .i64 0, .int .i64 0, .int .i64 0, .slice none 0 0, .slice none 0 0, .slice none 0 0, .int .i64 0]
  out : Row W (w.heap.size + 1 + 1) 56 #[.int .i64 r.st, .int .i64 (r.blk : Int), .int .i64 (r.pos : Int), .int .i64 r.val, x, y, z, .int .i64 (r.steps : Int)]
section
variable {w W W' : World} {r : Rn} {RA SA TA : Option Addr} {rc sc tc : Nat} {x y z : Value}
theorem CpS.next (h : CpS w r RA rc SA sc TA tc x y z W) (hb : Below W.heap.size W W') : CpS w r RA rc SA sc TA tc x y z W' :=
  ⟨h.below.trans (hb.mono h.below.size), h.box.below hb h.box.lt, h.res.below hb h.res.lt, h.out.below hb h.out.lt⟩
theorem CpS.put4 (h : CpS w r RA rc SA sc TA tc x y z W) (u : Value) : CpS w r RA rc SA sc TA tc u y z (W.setCell ⟨w.heap.size + 1 + 1, 4, none⟩ u) :=
  ⟨h.below.setCell (by show _ ≤ w.heap.size + 1 + 1; omega) _, h.box.far (by show _ ≠ w.heap.size + 1 + 1; omega) _, h.res.far (by show _ ≠ w.heap.size + 1 + 1; omega) _, h.out.put 4 u⟩
theorem CpS.put5 (h : CpS w r RA rc SA sc TA tc x y z W) (u : Value) : CpS w r RA rc SA sc TA tc x u z (W.setCell ⟨w.heap.size + 1 + 1, 5, none⟩ u) :=
  ⟨h.below.setCell (by show _ ≤ w.heap.size + 1 + 1; omega) _, h.box.far (by show _ ≠ w.heap.size + 1 + 1; omega) _, h.res.far (by show _ ≠ w.heap.size + 1 + 1; omega) _, h.out.put 5 u⟩
theorem CpS.put6 (h : CpS w r RA rc SA sc TA tc x y z W) (u : Value) : CpS w r RA rc SA sc TA tc x y u (W.setCell ⟨w.heap.size + 1 + 1, 6, none⟩ u) :=
  ⟨h.below.setCell (by show _ ≤ w.heap.size + 1 + 1; omega) _, h.box.far (by show _ ≠ w.heap.size + 1 + 1; omega) _, h.res.far (by show _ ≠ w.heap.size + 1 + 1; omega) _, h.out.put 6 u⟩
theorem CpS.start (w : World) (r : Rn) (RA : Option Addr) (rc : Nat) (SA : Option Addr) (sc : Nat) (TA : Option Addr) (tc : Nat) :
    CpS w r RA rc SA sc TA tc (.slice RA r.regs.length rc) (.slice SA 0 sc) (.slice TA r.trace.length tc) (((w.alloc (.cells #[.int .i64 r.st, .int .i64 (r.blk : Int), .int .i64 (r.pos : Int), .int .i64 r.val, .slice RA r.regs.length rc, .slice SA 0 sc, .slice TA r.trace.length tc, .int .i64 (r.steps : Int)] 56)).alloc (.cells #[.int .i64 0, .int .i64 0, .int .i64 0, .int .i64 0, .slice none 0 0, .slice none 0 0, .slice none 0 0, .int .i64 0] 56)).alloc (.cells #[.int .i64 r.st, .int .i64 (r.blk : Int), .int .i64 (r.pos : Int), .int .i64 r.val, .slice RA r.regs.length rc, .slice SA 0 sc, .slice TA r.trace.length tc, .int .i64 (r.steps : Int)] 56)) where
  below := (((Below.refl w.heap.size w).alloc (Nat.le_refl _) _).alloc (by simp) _).alloc (by simp; omega) _
  box := ((Row.new w _ _).alloc _).alloc _
  res := (Row.new' (p := w.heap.size + 1) (by simp) _ _).alloc _
  out := Row.new' (p := w.heap.size + 1 + 1) (by simp) _ _
end

/-- Memory behind an append to an empty new slice. -/
theorem app_new {w W : World} {l : List Int} {n : Nat} {v : Value} (hl : l.length = n) (ho2 : W.ownsRow w.heap.size 2 1 v n (ints l)) (hg : World.grownBy (w.alloc (.cells #[] 2)) W (Value.slice (some ⟨w.heap.size, 0, none⟩) 0 0).ownBlock) :
    ∃ A c, v = .slice A n c ∧ W.ownsRow w.heap.size 2 1 (.slice A n c) n (ints l) ∧ Below w.heap.size w W := by
  have hb1 : Below w.heap.size w W := ((Below.refl _ _).alloc (Nat.le_refl _) _).grown hg (by simp) (fun k hk => by simp [Value.ownBlock] at hk; omega)
  obtain ⟨A1, c1, rfl, _, _⟩ := ownS_slice ho2
  exact ⟨A1, c1, rfl, ho2, hb1⟩

set_option maxRecDepth 100000 in
set_option maxHeartbeats 2000000 in
theorem rcopyr_any (r : Rn) (B : Nat) (RA SA TA : Option Addr) (rc sc tc : Nat) (w : World) (h1 : Sees w B RA (ints r.regs)) (h3 : Sees w B TA (ints r.trace)) (hB : B ≤ w.heap.size) (hr : r.regs.length ≤ 1000000) (ht : r.trace.length ≤ 1000000) :
    Calls Try.prog 37 #[.agg #[.int .i64 r.st, .int .i64 (r.blk : Int), .int .i64 (r.pos : Int), .int .i64 r.val, .slice RA r.regs.length rc, .slice SA 0 sc, .slice TA r.trace.length tc, .int .i64 (r.steps : Int)]] w (RunP w r) := by
  obtain ⟨i0, hi, hz0, hz1, hz2⟩ := info_parts infoI64
  have hC0 := CpS.start w r RA rc SA sc TA tc
  obtain ⟨st, blk, pos, val, regs, trace, steps⟩ := r
  dsimp only at *
  go_enter Try.func37, Try.ntmps37
  go_upto_region 2 with fail
  generalize (((w.alloc (.cells #[.int .i64 st, .int .i64 (blk : Int), .int .i64 (pos : Int), .int .i64 val, .slice RA regs.length rc, .slice SA 0 sc, .slice TA trace.length tc, .int .i64 (steps : Int)] 56)).alloc (.cells #[.int .i64 0, .int .i64 0, .int .i64 0, .int .i64 0, .slice none 0 0, .slice none 0 0, .slice none 0 0, .int .i64 0] 56)).alloc (.cells #[.int .i64 st, .int .i64 (blk : Int), .int .i64 (pos : Int), .int .i64 val, .slice RA regs.length rc, .slice SA 0 sc, .slice TA trace.length tc, .int .i64 (steps : Int)] 56)) = W0 at *
  have b4 := hC0.box.cell 4; have b5 := hC0.box.cell 5; have b6 := hC0.box.cell 6
  simp only [List.getElem?_toArray, List.getElem?_cons_zero, List.getElem?_cons_succ] at b4 b5 b6
  have hz : w.heap.size < W0.heap.size := hC0.box.lt
  have hs1 := ((h1.more hB).below hC0.below).alloc (by omega) (.cells #[] 2)
  have HC := Lib.hid hC0
  go_wp2_with (at_builtin; refine wpList_append_sees _ rfl (.tmp 5) (.tmp 7) 44 rfl W0.heap.size 2 i0 (.int .i64 0) 8 Try.underlying44 hi hz0 hz1 hz2 rfl _ _ _ rfl (own_empty W0 2 1) w.heap.size _ _ _ (ints regs) rfl hs1 (ints_length _) (ints_one _) ?c1 ?c2 ?c3 ?_)
  case c1 => unfold maxLen; omega
  case c2 => omega
  case c3 => simp
  intro v1 W1 ho1 hg1
  obtain ⟨A1, c1, rfl, ho1, hb1⟩ := app_new rfl ho1 hg1
  have hC1 := HC.out.next hb1
  have f4 := hC1.out.cell 4; have g4 := hC1.out.frozen 4
  simp only [List.getElem?_toArray, List.getElem?_cons_zero, List.getElem?_cons_succ] at f4
  have hp := (Mods.refl (Is (w.heap.size + 1 + 1)) W1).put 4 (.slice A1 regs.length c1)
  have hO1 := hp.ownS ho1 fun k hk hs => by have := ownS_lt ho1 k hk; have := hC0.out.lt; unfold Is at hs; omega
  have hC2 := hC1.put4 (.slice A1 regs.length c1)
  have hzs : W0.heap.size ≤ W1.heap.size := hb1.size
  clear hg1 HC hb1 b4 b5 b6 hs1 hp ho1 hC1
  have hz0' : w.heap.size + 1 + 1 < W0.heap.size := hC0.out.lt
  clear hC0
  go_upto_region 3 with fail
  generalize W1.setCell ⟨w.heap.size + 1 + 1, 4, none⟩ (.slice A1 regs.length c1) = W2 at *
  clear f4 g4
  have b5 := hC2.box.cell 5
  simp only [List.getElem?_toArray, List.getElem?_cons_zero, List.getElem?_cons_succ] at b5
  have hz5 : w.heap.size < W2.heap.size := hC2.box.lt
  have HC := Lib.hid hC2
  have HO1 := Lib.hid hO1
  clear hC2 hO1 h1
  go_wp2_with (at_builtin; refine wpList_append_sees _ rfl (.tmp 10) (.tmp 12) 44 rfl W2.heap.size 2 i0 (.int .i64 0) 8 Try.underlying44 hi hz0 hz1 hz2 rfl _ _ _ rfl (own_empty W2 2 1) 0 _ _ _ [] rfl Sees.nil rfl (by simp) ?d1 ?d2 ?d3 ?_)
  case d1 => unfold maxLen; omega
  case d2 => omega
  case d3 => simp
  intro v2 W3 ho2 hg2
  obtain ⟨A2, c2, rfl, ho2, hb2⟩ := app_new (l := []) rfl ho2 hg2
  have hC1 := HC.out.next hb2
  have f4 := hC1.out.cell 5; have g4 := hC1.out.frozen 5
  simp only [List.getElem?_toArray, List.getElem?_cons_zero, List.getElem?_cons_succ] at f4
  have hp := (Mods.refl (Is (w.heap.size + 1 + 1)) W3).put 5 (.slice A2 0 c2)
  have hO1 := hp.ownS ((Mods.of_below (S := No) hb2).ownS HO1.out fun _ _ h => h) fun k hk hs => by have := ownS_lt HO1.out k hk; unfold Is at hs; omega
  have hC2 := hC1.put5 (.slice A2 0 c2)
  clear hg2 HC hb2 b5 hp ho2 hC1 HO1
  go_upto_region 4 with fail
  generalize W3.setCell ⟨w.heap.size + 1 + 1, 5, none⟩ (.slice A2 0 c2) = W4 at *
  clear f4 g4
  have b6 := hC2.box.cell 6
  simp only [List.getElem?_toArray, List.getElem?_cons_zero, List.getElem?_cons_succ] at b6
  have hz6 : w.heap.size < W4.heap.size := hC2.box.lt
  have hs3 := ((h3.more hB).below hC2.below).alloc (by omega) (.cells #[] 2)
  have HC := Lib.hid hC2
  have HO1 := Lib.hid hO1
  clear hC2 hO1 h3 hz5
  go_wp2_with (at_builtin; refine wpList_append_sees _ rfl (.tmp 15) (.tmp 17) 44 rfl W4.heap.size 2 i0 (.int .i64 0) 8 Try.underlying44 hi hz0 hz1 hz2 rfl _ _ _ rfl (own_empty W4 2 1) w.heap.size _ _ _ (ints trace) rfl hs3 (ints_length _) (ints_one _) ?e1 ?e2 ?e3 ?_)
  case e1 => unfold maxLen; omega
  case e2 => omega
  case e3 => simp
  intro v3 W5 ho3 hg3
  obtain ⟨A3, c3, rfl, ho3, hb3⟩ := app_new rfl ho3 hg3
  have hC1 := HC.out.next hb3
  have f4 := hC1.out.cell 6; have g4 := hC1.out.frozen 6
  simp only [List.getElem?_toArray, List.getElem?_cons_zero, List.getElem?_cons_succ] at f4
  have hp := (Mods.refl (Is (w.heap.size + 1 + 1)) W5).put 6 (.slice A3 trace.length c3)
  have hlt1 := fun k hk => (ownS_lt HO1.out k hk).2
  have hO1 := hp.ownS ((Mods.of_below (S := No) hb3).ownS HO1.out fun _ _ h => h) fun k hk hs => by have := ownS_lt HO1.out k hk; unfold Is at hs; omega
  have hge3 := fun k hk => (ownS_lt ho3 k hk).1
  have hO3 := hp.ownS ho3 fun k hk hs => by have := hge3 k hk; have := HC.out.out.lt; unfold Is at hs; omega
  have hC2 := hC1.put6 (.slice A3 trace.length c3)
  have hW4 : W0.heap.size ≤ W4.heap.size ∨ True := .inr trivial
  have hV : RunV (W5.setCell ⟨w.heap.size + 1 + 1, 6, none⟩ (.slice A3 trace.length c3)) (w.heap.size + 1 + 1) A1 c1 A3 c3 ⟨st, blk, pos, val, regs, trace, steps⟩ :=
    ⟨ownS_base hO1 (by omega), ownS_base hO3 (by have := HC.out.out.lt; omega), fun k h1 h2 => by have := hlt1 k h1; have := hge3 k h2; omega⟩
  clear hg3 HC hb3 b6 hp ho3 hC1 HO1 hlt1 hge3 hO1 hO3 hs3
  go_upto_region 5 with fail
  generalize W5.setCell ⟨w.heap.size + 1 + 1, 6, none⟩ (.slice A3 trace.length c3) = W6 at *
  clear f4 g4
  have f0 := hC2.out.cell 0; have f1 := hC2.out.cell 1; have f2 := hC2.out.cell 2; have f3 := hC2.out.cell 3; have f4 := hC2.out.cell 4; have f5 := hC2.out.cell 5; have f6 := hC2.out.cell 6; have f7 := hC2.out.cell 7
  have g0 := hC2.res.cell 0; have g1 := hC2.res.cell 1; have g2 := hC2.res.cell 2; have g3 := hC2.res.cell 3; have g4 := hC2.res.cell 4; have g5 := hC2.res.cell 5; have g6 := hC2.res.cell 6; have g7 := hC2.res.cell 7
  have r0 := hC2.res.frozen 0; have r1 := hC2.res.frozen 1; have r2 := hC2.res.frozen 2; have r3 := hC2.res.frozen 3; have r4 := hC2.res.frozen 4; have r5 := hC2.res.frozen 5; have r6 := hC2.res.frozen 6; have r7 := hC2.res.frozen 7
  simp only [List.getElem?_toArray, List.getElem?_cons_zero, List.getElem?_cons_succ] at f0 f1 f2 f3 f4 f5 f6 f7 g0 g1 g2 g3 g4 g5 g6 g7
  have HC := Lib.hid hC2
  have HV := Lib.hid hV
  clear hC2 hV
  go_wp2
  (try simp only [Exit.inBlock, Exit.then])
  refine bodyPost_ret (v := .agg #[.int .i64 st, .int .i64 (blk : Int), .int .i64 (pos : Int), .int .i64 val, .slice A1 regs.length c1, .slice A2 0 c2, .slice A3 trace.length c3, .int .i64 (steps : Int)]) ?_ rfl ⟨A1, c1, A2, c2, A3, c3, rfl, (HV.out.mods (mods8 W6 (w.heap.size + 1) _ _ _ _ _ _ _ _) (fun k hk => .inl (by unfold Is at hk; omega))).base (by omega), ?_⟩
  · exact results_cell_row rfl _ _ (w.heap.size + 1) 56 #[.int .i64 st, .int .i64 (blk : Int), .int .i64 (pos : Int), .int .i64 val, .slice A1 regs.length c1, .slice A2 0 c2, .slice A3 trace.length c3, .int .i64 (steps : Int)] (0, 0) _ rfl (HC.out.res.put8 _ _ _ _ _ _ _ _) Try.underlying56 rfl (by kernel_rfl)
  · exact blw8 (by omega) HC.out.below _ _ _ _ _ _ _ _

end Go.Proofs.Ytabebkkicpcjcaa
