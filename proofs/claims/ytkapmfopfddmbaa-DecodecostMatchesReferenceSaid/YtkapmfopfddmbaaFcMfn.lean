/-
  The reference of layer 18: MFunc (made by wip/lab/genfcmfunc.py).
-/
import Derived.Test.YtkapmfopfddmbaaFcFunc
import Derived.Test.YtkapmfopfddmbaaPk2
import Derived.Deep.LoopGhost
import Derived.Deep.Cut
import Derived.Deep.CutRange
import Derived.BigRegion
namespace Go.Proofs.Ytkapmfopfddmbaa
open Go.RowKit
set_option linter.unusedVariables false
set_option linter.unusedSimpArgs false

theorem FHM.start {w : World} {B : Nat} {A : Option Addr} {c : Nat} {s : Ip} (h : IpV w B A c s) (hB : B ≤ w.heap.size) :
    FHM w B A c s 0 0 0 (.slice none 0 0) [] ((((w.alloc (.cells #[.slice A s.rest.length c, .int .i64 s.err] 55)).alloc (.cells #[.int .i64 0, .int .i64 0, .int .i64 0, .slice none 0 0] 68)).alloc (.cells #[.slice none 0 0, .int .i64 0] 55)).alloc (.cells #[.int .i64 0, .int .i64 0, .int .i64 0, .slice none 0 0] 68)) := by
  have hb := ((((Below.refl w.heap.size w).alloc (Nat.le_refl _) (.cells #[.slice A s.rest.length c, .int .i64 s.err] 55)).alloc (by simp) (.cells #[.int .i64 0, .int .i64 0, .int .i64 0, .slice none 0 0] 68)).alloc (by simp; omega) (.cells #[.slice none 0 0, .int .i64 0] 55)).alloc (by simp; omega) (.cells #[.int .i64 0, .int .i64 0, .int .i64 0, .slice none 0 0] 68)
  exact ⟨hb, (((Row.new w _ _).alloc _).alloc _).alloc _, ((Row.new' (p := w.heap.size + 1) (by simp) _ _).alloc _).alloc _, (Row.new' (p := w.heap.size + 1 + 1) (by simp) _ _).alloc _, Row.new' (p := w.heap.size + 1 + 1 + 1) (by simp) _ _, h.below (hb.mono hB), ⟨[], NestV.nil _ _⟩⟩

theorem mi_one18 (x : Mi) : ∀ u ∈ x.cells, u.oneCell' = true := by
  intro u hu
  simp only [Mi.cells, List.mem_cons, List.not_mem_nil, or_false] at hu
  rcases hu with rfl | rfl | rfl | rfl | rfl | rfl | rfl <;> rfl

theorem moc_one18 (y : MBlk) (A : Option Addr) (n c : Nat) : ∀ u ∈ mshp.oc (.slice A n c) y, u.oneCell' = true := by
  intro u hu
  simp only [mshp, List.mem_cons, List.not_mem_nil, or_false] at hu
  rcases hu with rfl | rfl | rfl | rfl | rfl <;> rfl

/-- What the reference's Func returns. -/
def RQG (w : World) (B : Nat) (f : Gd) (t : Ip) (e : Ending) (w' : World) : Prop :=
  ∃ v vs A' c', e = .returned (.tuple #[.agg #[.int .i64 f.args, .int .i64 f.regs, .int .i64 f.slots, v], .agg #[.slice A' t.rest.length c', .int .i64 t.err]]) ∧ NestV mshp w' w.heap.size v vs f.ms ∧ IpV w' B A' c' t ∧ Below w.heap.size w w'

/-- Both results stored. -/
theorem FHM.fin {w : World} {B : Nat} {A : Option Addr} {c : Nat} {t : Ip} {a r sl : Int} {v : Value} {bs : List MBlk} {W : World} (h : FHM w B A c t a r sl v bs W) (hB : B ≤ w.heap.size) (u0 u1 u2 u3 : Value) :
    Row ((((((W.setCell ⟨w.heap.size + 1, 0, none⟩ u0).setCell ⟨w.heap.size + 1, 1, none⟩ u1).setCell ⟨w.heap.size + 1, 2, none⟩ u2).setCell ⟨w.heap.size + 1, 3, none⟩ u3).setCell ⟨w.heap.size + 1 + 1, 0, none⟩ (.slice A t.rest.length c)).setCell ⟨w.heap.size + 1 + 1, 1, none⟩ (.int .i64 t.err)).drew (w.heap.size + 1) 68 #[u0, u1, u2, u3] ∧
    Row ((((((W.setCell ⟨w.heap.size + 1, 0, none⟩ u0).setCell ⟨w.heap.size + 1, 1, none⟩ u1).setCell ⟨w.heap.size + 1, 2, none⟩ u2).setCell ⟨w.heap.size + 1, 3, none⟩ u3).setCell ⟨w.heap.size + 1 + 1, 0, none⟩ (.slice A t.rest.length c)).setCell ⟨w.heap.size + 1 + 1, 1, none⟩ (.int .i64 t.err)).drew (w.heap.size + 1 + 1) 55 #[.slice A t.rest.length c, .int .i64 t.err] ∧
    Below w.heap.size w ((((((W.setCell ⟨w.heap.size + 1, 0, none⟩ u0).setCell ⟨w.heap.size + 1, 1, none⟩ u1).setCell ⟨w.heap.size + 1, 2, none⟩ u2).setCell ⟨w.heap.size + 1, 3, none⟩ u3).setCell ⟨w.heap.size + 1 + 1, 0, none⟩ (.slice A t.rest.length c)).setCell ⟨w.heap.size + 1 + 1, 1, none⟩ (.int .i64 t.err)).drew ∧
    IpV ((((((W.setCell ⟨w.heap.size + 1, 0, none⟩ u0).setCell ⟨w.heap.size + 1, 1, none⟩ u1).setCell ⟨w.heap.size + 1, 2, none⟩ u2).setCell ⟨w.heap.size + 1, 3, none⟩ u3).setCell ⟨w.heap.size + 1 + 1, 0, none⟩ (.slice A t.rest.length c)).setCell ⟨w.heap.size + 1 + 1, 1, none⟩ (.int .i64 t.err)).drew B A c t ∧
    ∃ vs, NestV mshp ((((((W.setCell ⟨w.heap.size + 1, 0, none⟩ u0).setCell ⟨w.heap.size + 1, 1, none⟩ u1).setCell ⟨w.heap.size + 1, 2, none⟩ u2).setCell ⟨w.heap.size + 1, 3, none⟩ u3).setCell ⟨w.heap.size + 1 + 1, 0, none⟩ (.slice A t.rest.length c)).setCell ⟨w.heap.size + 1 + 1, 1, none⟩ (.int .i64 t.err)).drew (w.heap.size + 1 + 1 + 1 + 1) v vs bs := by
  have h1 : Mods (Is (w.heap.size + 1)) W ((((W.setCell ⟨w.heap.size + 1, 0, none⟩ u0).setCell ⟨w.heap.size + 1, 1, none⟩ u1).setCell ⟨w.heap.size + 1, 2, none⟩ u2).setCell ⟨w.heap.size + 1, 3, none⟩ u3) := ((((Mods.refl _ W).put 0 u0).put 1 u1).put 2 u2).put 3 u3
  have r1 : Row ((((W.setCell ⟨w.heap.size + 1, 0, none⟩ u0).setCell ⟨w.heap.size + 1, 1, none⟩ u1).setCell ⟨w.heap.size + 1, 2, none⟩ u2).setCell ⟨w.heap.size + 1, 3, none⟩ u3) (w.heap.size + 1) 68 #[u0, u1, u2, u3] := (((h.z2.put 0 u0).put 1 u1).put 2 u2).put 3 u3
  have r3 := h.z3.mods h1 (fun e => by unfold Is at e; omega)
  generalize ((((W.setCell ⟨w.heap.size + 1, 0, none⟩ u0).setCell ⟨w.heap.size + 1, 1, none⟩ u1).setCell ⟨w.heap.size + 1, 2, none⟩ u2).setCell ⟨w.heap.size + 1, 3, none⟩ u3) = V at *
  have h2 : Mods (Is (w.heap.size + 1 + 1)) V ((V.setCell ⟨w.heap.size + 1 + 1, 0, none⟩ (.slice A t.rest.length c)).setCell ⟨w.heap.size + 1 + 1, 1, none⟩ (.int .i64 t.err)).drew := (((Mods.refl _ V).put 0 _).put 1 _).drew
  have r4 : Row ((V.setCell ⟨w.heap.size + 1 + 1, 0, none⟩ (.slice A t.rest.length c)).setCell ⟨w.heap.size + 1 + 1, 1, none⟩ (.int .i64 t.err)).drew (w.heap.size + 1 + 1) 55 #[.slice A t.rest.length c, .int .i64 t.err] := ((r3.put 0 _).put 1 _).drew
  generalize ((V.setCell ⟨w.heap.size + 1 + 1, 0, none⟩ (.slice A t.rest.length c)).setCell ⟨w.heap.size + 1 + 1, 1, none⟩ (.int .i64 t.err)).drew = U at *
  have hbw := h.blw.size
  have hb1 : Below w.heap.size W V := h1.below hbw fun k hk => by unfold Is at hk; omega
  have hb2 : Below w.heap.size V U := h2.below (by have := hb1.size; omega) fun k hk => by unfold Is at hk; omega
  obtain ⟨vs, hn⟩ := h.nest
  exact ⟨r1.mods h2 (fun e => by unfold Is at e; omega), r4, h.blw.trans (hb1.trans hb2), h.ip.below ((hb1.trans hb2).mono hB), vs, (hn.mods h1 fun k a1 _ a2 => by unfold Is at a2; omega).mods h2 fun k a1 _ a2 => by unfold Is at a2; omega⟩

set_option maxRecDepth 100000 in
set_option maxHeartbeats 16000000 in
theorem rmfunc18_any {w : World} {B : Nat} {A : Option Addr} {c : Nat} {s : Ip} (h : IpV w B A c s) (hB : B ≤ w.heap.size) :
    Calls Try.prog 32 #[.agg #[.slice A s.rest.length c, .int .i64 s.err]] w (RQG w B (mfuncE s).1 (mfuncE s).2) := by
  obtain ⟨i0, hi0, hz0, hz1, hz2⟩ := info_parts infoMi
  obtain ⟨i1, hi1, hy0, hy1, hy2⟩ := info_parts infoMB
  obtain ⟨⟨a, sa⟩, hA⟩ : ∃ y, fA s = y := ⟨_, rfl⟩
  obtain ⟨⟨r, sr⟩, hR⟩ : ∃ y, fR' s = y := ⟨_, rfl⟩
  obtain ⟨⟨sl, ss⟩, hS⟩ : ∃ y, gS s = y := ⟨_, rfl⟩
  obtain ⟨sc, hC⟩ : ∃ y, gC s = y := ⟨_, rfl⟩
  obtain ⟨⟨n, sn⟩, hN⟩ : ∃ y, gN s = y := ⟨_, rfl⟩
  obtain ⟨FB, hFB⟩ : ∃ y, gB s = y := ⟨_, rfl⟩
  have EA : Hid (sizeE s = (a, sa)) := hA
  have ER : Hid (sizeE sa = (r, sr)) := by show _ = _; have := hR; unfold fR' at this; rw [hA] at this; exact this
  have ES : Hid (sizeE sr = (sl, ss)) := by show _ = _; have := hS; unfold gS at this; rw [hR] at this; exact this
  have EC : Hid ((if sl < a then failE 10 ss else ss) = sc) := by show _ = _; have := hC; unfold gC at this; rw [hA, hS] at this; exact this
  have EN : Hid (nblkE sc = (n, sn)) := by show _ = _; have := hN; unfold gN at this; rw [hC] at this; exact this
  have EB : Hid (mblksE r sl n n.toNat 0 sn = FB) := by show _ = _; have := hFB; unfold gB at this; rw [hN, hR, hS] at this; exact this
  have EF : Hid (mfuncE s = if FB.2.err ≠ 0 then (⟨0, 0, 0, []⟩, FB.2) else (⟨a, r, sl, FB.1⟩, FB.2)) := by show _ = _; unfold mfuncE; rw [hFB, hA, hR, hS]
  have ra : 0 ≤ a ∧ a ≤ 1048576 := by have := sizeE_rng (s := s); rw [EA.out] at this; exact this
  have rr : 0 ≤ r ∧ r ≤ 1048576 := by have := sizeE_rng (s := sa); rw [ER.out] at this; exact this
  have rl : 0 ≤ sl ∧ sl ≤ 1048576 := by have := sizeE_rng (s := sr); rw [ES.out] at this; exact this
  have rn : 0 ≤ n ∧ n ≤ 1048576 := by have := nblkE_rng (s := sc); rw [EN.out] at this; exact this
  obtain ⟨FE, hFE⟩ : ∃ y, y = mfuncE s := ⟨_, rfl⟩
  rw [← hFE] at EF ⊢
  clear hA hR hS hC hN hFB hFE
  have HBB := Lib.hid hB
  have HF0 := Lib.hid (FHM.start h hB)
  clear h hB
  go_enter Try.func32, Try.ntmps32
  go_upto_region 2 with fail
  generalize ((((w.alloc (.cells #[.slice A s.rest.length c, .int .i64 s.err] 55)).alloc (.cells #[.int .i64 0, .int .i64 0, .int .i64 0, .slice none 0 0] 68)).alloc (.cells #[.slice none 0 0, .int .i64 0] 55)).alloc (.cells #[.int .i64 0, .int .i64 0, .int .i64 0, .slice none 0 0] 68)) = W0 at *
  have C := Lib.hid (rsize18_any HF0.out.ip (Nat.le_trans HBB.out HF0.out.blw.size))
  rw [EA.out] at C
  have p0 := HF0.out.inp.cell 0; have p1 := HF0.out.inp.cell 1
  simp only [List.getElem?_toArray, List.getElem?_cons_zero, List.getElem?_cons_succ] at p0 p1
  go_wp2_with fail
  refine C.out.mono ?_
  rintro e W1 ⟨A1, c1, rfl, hI, hb⟩
  have HF1 := Lib.hid (HF0.out.next hb HBB.out)
  have HI1 := Lib.hid hI
  clear hb hI C p0 p1 HF0
  have p0 := HF1.out.inp.cell 0; have p1 := HF1.out.inp.cell 1
  have pf0 := HF1.out.inp.frozen 0; have pf1 := HF1.out.inp.frozen 1
  simp only [List.getElem?_toArray, List.getElem?_cons_zero, List.getElem?_cons_succ] at p0 p1
  have f0 := HF1.out.fb.cell 0; have f1 := HF1.out.fb.cell 1; have f2 := HF1.out.fb.cell 2; have f3 := HF1.out.fb.cell 3
  have ff0 := HF1.out.fb.frozen 0; have ff1 := HF1.out.fb.frozen 1; have ff2 := HF1.out.fb.frozen 2; have ff3 := HF1.out.fb.frozen 3
  simp only [List.getElem?_toArray, List.getElem?_cons_zero, List.getElem?_cons_succ] at f0 f1 f2 f3
  go_upto_region 3 with fail
  have HF1s := Lib.hid ((HF1.out.fld 0 (.int .i64 a) rfl HBB.out).inpt (HI1.out.below ((Below.refl _ _).setCell (p := ⟨w.heap.size + 1 + 1 + 1, 0, none⟩) (by show _ ≤ w.heap.size + 1 + 1 + 1; have := HBB.out; omega) (.int .i64 a))) HBB.out)
  clear p0 p1 pf0 pf1 f0 f1 f2 f3 ff0 ff1 ff2 ff3 HF1 HI1
  generalize (((W1.setCell ⟨w.heap.size + 1 + 1 + 1, 0, none⟩ (.int .i64 a)).setCell ⟨w.heap.size, 0, none⟩ (.slice A1 sa.rest.length c1)).setCell ⟨w.heap.size, 1, none⟩ (.int .i64 sa.err)) = W1s at *
  have C := Lib.hid (rsize18_any HF1s.out.ip (Nat.le_trans HBB.out HF1s.out.blw.size))
  rw [ER.out] at C
  have p0 := HF1s.out.inp.cell 0; have p1 := HF1s.out.inp.cell 1
  simp only [List.getElem?_toArray, List.getElem?_cons_zero, List.getElem?_cons_succ] at p0 p1
  go_wp2_with fail
  refine C.out.mono ?_
  rintro e W2 ⟨A2, c2, rfl, hI, hb⟩
  have HF2 := Lib.hid (HF1s.out.next hb HBB.out)
  have HI2 := Lib.hid hI
  clear hb hI C p0 p1 HF1s
  have p0 := HF2.out.inp.cell 0; have p1 := HF2.out.inp.cell 1
  have pf0 := HF2.out.inp.frozen 0; have pf1 := HF2.out.inp.frozen 1
  simp only [List.getElem?_toArray, List.getElem?_cons_zero, List.getElem?_cons_succ] at p0 p1
  have f0 := HF2.out.fb.cell 0; have f1 := HF2.out.fb.cell 1; have f2 := HF2.out.fb.cell 2; have f3 := HF2.out.fb.cell 3
  have ff0 := HF2.out.fb.frozen 0; have ff1 := HF2.out.fb.frozen 1; have ff2 := HF2.out.fb.frozen 2; have ff3 := HF2.out.fb.frozen 3
  simp only [List.getElem?_toArray, List.getElem?_cons_zero, List.getElem?_cons_succ] at f0 f1 f2 f3
  go_upto_region 4 with fail
  have HF2s := Lib.hid ((HF2.out.fld 1 (.int .i64 r) rfl HBB.out).inpt (HI2.out.below ((Below.refl _ _).setCell (p := ⟨w.heap.size + 1 + 1 + 1, 1, none⟩) (by show _ ≤ w.heap.size + 1 + 1 + 1; have := HBB.out; omega) (.int .i64 r))) HBB.out)
  clear p0 p1 pf0 pf1 f0 f1 f2 f3 ff0 ff1 ff2 ff3 HF2 HI2
  generalize (((W2.setCell ⟨w.heap.size + 1 + 1 + 1, 1, none⟩ (.int .i64 r)).setCell ⟨w.heap.size, 0, none⟩ (.slice A2 sr.rest.length c2)).setCell ⟨w.heap.size, 1, none⟩ (.int .i64 sr.err)) = W2s at *
  have C := Lib.hid (rsize18_any HF2s.out.ip (Nat.le_trans HBB.out HF2s.out.blw.size))
  rw [ES.out] at C
  have p0 := HF2s.out.inp.cell 0; have p1 := HF2s.out.inp.cell 1
  simp only [List.getElem?_toArray, List.getElem?_cons_zero, List.getElem?_cons_succ] at p0 p1
  go_wp2_with fail
  refine C.out.mono ?_
  rintro e W6 ⟨A6, c6, rfl, hI, hb⟩
  have HF6 := Lib.hid (HF2s.out.next hb HBB.out)
  have HI6 := Lib.hid hI
  clear hb hI C p0 p1 HF2s
  have p0 := HF6.out.inp.cell 0; have p1 := HF6.out.inp.cell 1
  have pf0 := HF6.out.inp.frozen 0; have pf1 := HF6.out.inp.frozen 1
  simp only [List.getElem?_toArray, List.getElem?_cons_zero, List.getElem?_cons_succ] at p0 p1
  have f0 := HF6.out.fb.cell 0; have f1 := HF6.out.fb.cell 1; have f2 := HF6.out.fb.cell 2; have f3 := HF6.out.fb.cell 3
  have ff0 := HF6.out.fb.frozen 0; have ff1 := HF6.out.fb.frozen 1; have ff2 := HF6.out.fb.frozen 2; have ff3 := HF6.out.fb.frozen 3
  simp only [List.getElem?_toArray, List.getElem?_cons_zero, List.getElem?_cons_succ] at f0 f1 f2 f3
  go_upto_region 5 with fail
  have HF6s := Lib.hid ((HF6.out.fld 2 (.int .i64 sl) rfl HBB.out).inpt (HI6.out.below ((Below.refl _ _).setCell (p := ⟨w.heap.size + 1 + 1 + 1, 2, none⟩) (by show _ ≤ w.heap.size + 1 + 1 + 1; have := HBB.out; omega) (.int .i64 sl))) HBB.out)
  clear p0 p1 pf0 pf1 f0 f1 f2 f3 ff0 ff1 ff2 ff3 HF6 HI6
  generalize (((W6.setCell ⟨w.heap.size + 1 + 1 + 1, 2, none⟩ (.int .i64 sl)).setCell ⟨w.heap.size, 0, none⟩ (.slice A6 ss.rest.length c6)).setCell ⟨w.heap.size, 1, none⟩ (.int .i64 ss.err)) = W6s at *
  have f0 := HF6s.out.fb.cell 0; have f1 := HF6s.out.fb.cell 1; have f2 := HF6s.out.fb.cell 2; have f3 := HF6s.out.fb.cell 3
  simp only [List.getElem?_toArray, List.getElem?_cons_zero, List.getElem?_cons_succ] at f0 f1 f2 f3
  have p0 := HF6s.out.inp.cell 0; have p1 := HF6s.out.inp.cell 1
  have pf0 := HF6s.out.inp.frozen 0; have pf1 := HF6s.out.inp.frozen 1
  simp only [List.getElem?_toArray, List.getElem?_cons_zero, List.getElem?_cons_succ] at p0 p1
  go_upto_if 35 with fail
  go_cut [] from 13 (fun wx => ∃ A c, Hid (FHM w B A c sc a r sl (.slice none 0 0) [] wx))
  case first =>
    by_cases hc : sl < a
    · have hcE : Hid (failE 10 ss = sc) := by show _ = _; rw [← EC.out, if_pos hc]
      have C := Lib.hid (rfail18_any 10 HF6s.out.ip (Nat.le_trans HBB.out HF6s.out.blw.size))
      rw [hcE.out] at C
      go_wp2_with fail
      refine C.out.mono ?_
      rintro e W3 ⟨A3, c3, rfl, hI, hb⟩
      have HF3 := Lib.hid (HF6s.out.next hb HBB.out)
      have HI3 := Lib.hid hI
      clear hb hI C p0 p1 pf0 pf1 f0 f1 f2 f3 HF6s
      have p0 := HF3.out.inp.cell 0; have p1 := HF3.out.inp.cell 1
      have pf0 := HF3.out.inp.frozen 0; have pf1 := HF3.out.inp.frozen 1
      simp only [List.getElem?_toArray, List.getElem?_cons_zero, List.getElem?_cons_succ] at p0 p1
      go_wp2_with fail
      go_meet
      case rel => exact ⟨A3, c3, HF3.out.inpt HI3.out HBB.out⟩
    · have hcE : Hid (ss = sc) := by show _ = _; rw [← EC.out, if_neg hc]
      have hc' : a ≤ sl := by omega
      clear hc
      go_wp2_with fail
      go_meet
      case rel => exact ⟨A6, c6, by rw [← hcE.out]; exact HF6s.out⟩
  case rest =>
    obtain ⟨A4, c4, HF4⟩ := hcut
    clear HF6s p0 p1 pf0 pf1 f0 f1 f2 f3 EC
    go_upto_region 8 with fail
    have C := Lib.hid (rblocks18_any HF4.out.ip (Nat.le_trans HBB.out HF4.out.blw.size))
    rw [EN.out] at C
    have p0 := HF4.out.inp.cell 0; have p1 := HF4.out.inp.cell 1
    simp only [List.getElem?_toArray, List.getElem?_cons_zero, List.getElem?_cons_succ] at p0 p1
    go_wp2_with fail
    refine C.out.mono ?_
    rintro e W5 ⟨A5, c5, rfl, hI, hb⟩
    have HF5 := Lib.hid (HF4.out.next hb HBB.out)
    have HI5 := Lib.hid hI
    clear hb hI C p0 p1 HF4
    have p0 := HF5.out.inp.cell 0; have p1 := HF5.out.inp.cell 1
    have pf0 := HF5.out.inp.frozen 0; have pf1 := HF5.out.inp.frozen 1
    simp only [List.getElem?_toArray, List.getElem?_cons_zero, List.getElem?_cons_succ] at p0 p1
    go_upto_region 9 with fail
    have HF6 := Lib.hid (HF5.out.inpt HI5.out HBB.out)
    clear p0 p1 pf0 pf1 HF5 HI5
    generalize ((W5.setCell ⟨w.heap.size, 0, none⟩ (.slice A5 sn.rest.length c5)).setCell ⟨w.heap.size, 1, none⟩ (.int .i64 sn.err)) = W6 at *
    go_wp2
    go_loopg [6, 7] n.toNat (fun g v6 v7 wr => ∃ (i : Nat) (tot : Int) (A : Option Addr) (c : Nat) (t : Ip) (v : Value) (bs : List MBlk), i + g = n.toNat ∧ v6 = .int .i64 tot ∧ v7 = .int .i64 i ∧ (0 ≤ tot ∧ tot ≤ 1048576) ∧ Hid (bs.length = i) ∧ Hid (FB = (bs ++ (mblksE r sl n g tot t).1, (mblksE r sl n g tot t).2)) ∧ Hid (FHM w B A c t a r sl v bs wr))
    case atStart => exact ⟨0, 0, A5, c5, sn, _, [], by omega, rfl, rfl, by omega, rfl, EB.out.symm, HF6.out⟩
    case round =>
      clear HF6 EB EN
      obtain ⟨i, tot, A, c, t, v, bs, hig, rfl, rfl, ht, hbl, HE, HF⟩ := hrel
      cases gk with
      | zero =>
        have hin : ¬ (i : Int) < n := by omega
        have HEE : Hid (FB = (bs, t)) := by show _ = _; rw [HE.out]; show (bs ++ [], t) = _; rw [List.append_nil]
        by_cases he : t.err ≠ 0
        · have p0 := HF.out.inp.cell 0; have p1 := HF.out.inp.cell 1
          simp only [List.getElem?_toArray, List.getElem?_cons_zero, List.getElem?_cons_succ] at p0 p1
          have g0 := HF.out.z2.cell 0; have g1 := HF.out.z2.cell 1; have g2 := HF.out.z2.cell 2; have g3 := HF.out.z2.cell 3
          have gf0 := HF.out.z2.frozen 0; have gf1 := HF.out.z2.frozen 1; have gf2 := HF.out.z2.frozen 2; have gf3 := HF.out.z2.frozen 3
          simp only [List.getElem?_toArray, List.getElem?_cons_zero, List.getElem?_cons_succ] at g0 g1 g2 g3
          have q0 := HF.out.z3.cell 0; have q1 := HF.out.z3.cell 1
          have qf0 := HF.out.z3.frozen 0; have qf1 := HF.out.z3.frozen 1
          simp only [List.getElem?_toArray, List.getElem?_cons_zero, List.getElem?_cons_succ] at q0 q1
          have d0 : (t.err != 0) = true := by simp [he]
          have d1 : (t.err == 0) = false := by simp [he]
          have HFE : Hid (FE = (⟨0, 0, 0, []⟩, t)) := by show _ = _; rw [EF.out, HEE.out]; exact if_pos he
          clear he
          go_wp2_with fail
          go_region
          go_wp2
          (try simp only [Exit.inBlock, Exit.then])
          obtain ⟨f1, f2, f3, f4, f5⟩ := HF.out.fin HBB.out (.int .i64 0) (.int .i64 0) (.int .i64 0) (.slice none 0 0)
          refine bodyPost_ret (v := .tuple #[.agg #[.int .i64 0, .int .i64 0, .int .i64 0, .slice none 0 0], .agg #[.slice A t.rest.length c, .int .i64 t.err]]) ?_ rfl ⟨.slice none 0 0, [], A, c, by rw [HFE.out], by rw [HFE.out]; exact NestV.nil _ _, by rw [HFE.out]; exact f4, f3⟩
          exact results_row_row rfl _ _ (w.heap.size + 1 + 1) (w.heap.size + 1) 55 68 #[.slice A t.rest.length c, .int .i64 t.err] #[.int .i64 0, .int .i64 0, .int .i64 0, .slice none 0 0] (0, 0) (0, 0) _ _ rfl f2 Try.underlying55 rfl (by kernel_rfl) rfl f1 Try.underlying68 rfl (by kernel_rfl)
        · have he : t.err = 0 := by omega
          obtain ⟨vs0, hn0⟩ := HF.out.nest
          obtain ⟨Av, cv, rfl, _, _⟩ := ownS_slice hn0.outer
          clear hn0
          have p0 := HF.out.inp.cell 0; have p1 := HF.out.inp.cell 1
          simp only [List.getElem?_toArray, List.getElem?_cons_zero, List.getElem?_cons_succ] at p0 p1
          have g0 := HF.out.z2.cell 0; have g1 := HF.out.z2.cell 1; have g2 := HF.out.z2.cell 2; have g3 := HF.out.z2.cell 3
          have gf0 := HF.out.z2.frozen 0; have gf1 := HF.out.z2.frozen 1; have gf2 := HF.out.z2.frozen 2; have gf3 := HF.out.z2.frozen 3
          simp only [List.getElem?_toArray, List.getElem?_cons_zero, List.getElem?_cons_succ] at g0 g1 g2 g3
          have q0 := HF.out.z3.cell 0; have q1 := HF.out.z3.cell 1
          have qf0 := HF.out.z3.frozen 0; have qf1 := HF.out.z3.frozen 1
          simp only [List.getElem?_toArray, List.getElem?_cons_zero, List.getElem?_cons_succ] at q0 q1
          have f0 := HF.out.fb.cell 0; have f1 := HF.out.fb.cell 1; have f2 := HF.out.fb.cell 2; have f3 := HF.out.fb.cell 3
          simp only [List.getElem?_toArray, List.getElem?_cons_zero, List.getElem?_cons_succ] at f0 f1 f2 f3
          have d0 : (t.err != 0) = false := by simp [he]
          have HFE : Hid (FE = (⟨a, r, sl, bs⟩, t)) := by show _ = _; rw [EF.out, HEE.out]; exact if_neg fun hh => hh he
          clear he
          go_wp2_with fail
          go_region
          go_wp2
          (try simp only [Exit.inBlock, Exit.then])
          obtain ⟨f1, f2, f3, f4, vs, f5⟩ := HF.out.fin HBB.out (.int .i64 a) (.int .i64 r) (.int .i64 sl) (.slice Av vs0.length cv)
          refine bodyPost_ret (v := .tuple #[.agg #[.int .i64 a, .int .i64 r, .int .i64 sl, .slice Av vs0.length cv], .agg #[.slice A t.rest.length c, .int .i64 t.err]]) ?_ rfl ⟨.slice Av vs0.length cv, vs, A, c, by rw [HFE.out], by rw [HFE.out]; exact f5.rebase (by omega), by rw [HFE.out]; exact f4, f3⟩
          exact results_row_row rfl _ _ (w.heap.size + 1 + 1) (w.heap.size + 1) 55 68 #[.slice A t.rest.length c, .int .i64 t.err] #[.int .i64 a, .int .i64 r, .int .i64 sl, .slice Av vs0.length cv] (0, 0) (0, 0) _ _ rfl f2 Try.underlying55 rfl (by kernel_rfl) rfl f1 Try.underlying68 rfl (by kernel_rfl)
      | succ g =>
        have hin : (i : Int) < n := by omega
        by_cases he : t.err ≠ 0
        · have HEE : Hid (FB = (bs, t)) := by show _ = _; rw [HE.out, mblksE_err he]; show (bs ++ [], t) = _; rw [List.append_nil]
          have p0 := HF.out.inp.cell 0; have p1 := HF.out.inp.cell 1
          simp only [List.getElem?_toArray, List.getElem?_cons_zero, List.getElem?_cons_succ] at p0 p1
          have g0 := HF.out.z2.cell 0; have g1 := HF.out.z2.cell 1; have g2 := HF.out.z2.cell 2; have g3 := HF.out.z2.cell 3
          have gf0 := HF.out.z2.frozen 0; have gf1 := HF.out.z2.frozen 1; have gf2 := HF.out.z2.frozen 2; have gf3 := HF.out.z2.frozen 3
          simp only [List.getElem?_toArray, List.getElem?_cons_zero, List.getElem?_cons_succ] at g0 g1 g2 g3
          have q0 := HF.out.z3.cell 0; have q1 := HF.out.z3.cell 1
          have qf0 := HF.out.z3.frozen 0; have qf1 := HF.out.z3.frozen 1
          simp only [List.getElem?_toArray, List.getElem?_cons_zero, List.getElem?_cons_succ] at q0 q1
          have d0 : (t.err != 0) = true := by simp [he]
          have d1 : (t.err == 0) = false := by simp [he]
          have HFE : Hid (FE = (⟨0, 0, 0, []⟩, t)) := by show _ = _; rw [EF.out, HEE.out]; exact if_pos he
          clear he
          go_wp2_with fail
          go_region
          go_wp2
          (try simp only [Exit.inBlock, Exit.then])
          obtain ⟨f1, f2, f3, f4, f5⟩ := HF.out.fin HBB.out (.int .i64 0) (.int .i64 0) (.int .i64 0) (.slice none 0 0)
          refine bodyPost_ret (v := .tuple #[.agg #[.int .i64 0, .int .i64 0, .int .i64 0, .slice none 0 0], .agg #[.slice A t.rest.length c, .int .i64 t.err]]) ?_ rfl ⟨.slice none 0 0, [], A, c, by rw [HFE.out], by rw [HFE.out]; exact NestV.nil _ _, by rw [HFE.out]; exact f4, f3⟩
          exact results_row_row rfl _ _ (w.heap.size + 1 + 1) (w.heap.size + 1) 55 68 #[.slice A t.rest.length c, .int .i64 t.err] #[.int .i64 0, .int .i64 0, .int .i64 0, .slice none 0 0] (0, 0) (0, 0) _ _ rfl f2 Try.underlying55 rfl (by kernel_rfl) rfl f1 Try.underlying68 rfl (by kernel_rfl)
        · have he : t.err = 0 := by omega
          have HEZ := Lib.hid he
          have d0 : (t.err == 0) = true := by simp [he]
          obtain ⟨⟨k, tk⟩, hK⟩ : ∃ y, codeE tot t = y := ⟨_, rfl⟩
          have rk : 0 ≤ k ∧ tot + k ≤ 1048576 := by have := codeE_rng (s := t) ht.2; rw [hK] at this; exact this
          have EK := Lib.hid hK
          have EKK : Hid (blkK tot t = k) := by show _ = _; unfold blkK; rw [hK]
          clear he hK
          have p0 := HF.out.inp.cell 0; have p1 := HF.out.inp.cell 1
          simp only [List.getElem?_toArray, List.getElem?_cons_zero, List.getElem?_cons_succ] at p0 p1
          go_upto_region 15 with fail
          have hbx := (Below.refl wr.heap.size wr).alloc (Nat.le_refl _) (.cells #[.slice none 0 0, .int .i64 0, .int .i64 0, .int .i64 0, .int .i64 0] 109)
          have HG0 : Hid (GHM w wr B A c t a r sl v bs (.slice none 0 0) [] (wr.alloc (.cells #[.slice none 0 0, .int .i64 0, .int .i64 0, .int .i64 0, .int .i64 0] 109))) :=
            ⟨⟨A, c, t, HF.out⟩, (Mods.refl _ _).alloc _, HF.out.inp.alloc _, HF.out.ip.below (hbx.mono (Nat.le_trans HBB.out HF.out.blw.size)), Row.new _ _ _, ⟨by simp, .inl ⟨rfl, rfl⟩⟩⟩
          clear hbx p0 p1 HF
          generalize (wr.alloc (.cells #[.slice none 0 0, .int .i64 0, .int .i64 0, .int .i64 0, .int .i64 0] 109)) = Wb at *
          obtain ⟨wo, hwo⟩ : ∃ z, z = wr := ⟨_, rfl⟩
          subst hwo
          have C := Lib.hid (rcode18_any tot ⟨ht.1, by omega⟩ HG0.out.ip (Nat.le_trans HBB.out HG0.out.blw.size))
          rw [EK.out] at C
          have p0 := HG0.out.inp.cell 0; have p1 := HG0.out.inp.cell 1
          simp only [List.getElem?_toArray, List.getElem?_cons_zero, List.getElem?_cons_succ] at p0 p1
          go_wp2_with fail
          refine C.out.mono ?_
          rintro e W2 ⟨A2, c2, rfl, hI, hb⟩
          have HG1 := Lib.hid (HG0.out.next hb HBB.out)
          have HI1 := Lib.hid hI
          clear hb hI C p0 p1 HG0
          have p0 := HG1.out.inp.cell 0; have p1 := HG1.out.inp.cell 1
          have pf0 := HG1.out.inp.frozen 0; have pf1 := HG1.out.inp.frozen 1
          simp only [List.getElem?_toArray, List.getElem?_cons_zero, List.getElem?_cons_succ] at p0 p1
          go_upto_region 16 with fail
          have HG2 := Lib.hid (HG1.out.inpt HI1.out HBB.out)
          clear p0 p1 pf0 pf1 HG1 HI1
          generalize ((W2.setCell ⟨w.heap.size, 0, none⟩ (.slice A2 tk.rest.length c2)).setCell ⟨w.heap.size, 1, none⟩ (.int .i64 tk.err)) = W3 at *
          go_wp2
          go_loopg [10, 11] k.toNat (fun g2 v10 v11 wx => ∃ (j run : Nat) (A : Option Addr) (c : Nat) (t2 : Ip) (vc : Value) (xs : List Mi), j + g2 = k.toNat ∧ v10 = .int .i64 run ∧ v11 = .int .i64 j ∧ run ≤ j ∧ Hid (xs.length = j) ∧ Hid (mblkI r sl tot t = (xs ++ (miE r sl g2 run t2).1, (miE r sl g2 run t2).2)) ∧ Hid (GHM w wo B A c t2 a r sl v bs vc xs wx))
          case atStart => exact ⟨0, 0, A2, c2, tk, _, [], by omega, rfl, rfl, Nat.le_refl _, rfl, (by show mblkI r sl tot t = _; unfold mblkI; rw [EK.out]; rfl), HG2.out⟩
          case round =>
            clear HG2
            obtain ⟨j, run, A, c, t2, vc, xs, hjg, rfl, rfl, hrun, hxl2, HI, HG⟩ := hrel
            cases gk with
            | zero =>
              have hjn : ¬ (j : Int) < k := by omega
              replace HI : Hid (mblkI r sl tot t = (xs, t2)) := by show _ = _; rw [HI.out]; show (xs ++ [], t2) = _; rw [List.append_nil]
              obtain ⟨⟨tm, tt⟩, hT⟩ : ∃ y, termE r n t2 = y := ⟨_, rfl⟩
              have ET : Hid (mblkT r sl n tot t = (tm, tt)) := by show _ = _; unfold mblkT; rw [HI.out]; exact hT
              have C := Lib.hid (rterm17_any r n HG.out.ip (Nat.le_trans HBB.out HG.out.blw.size) ⟨rr.1, by omega⟩ ⟨rn.1, by omega⟩)
              rw [hT] at C
              clear hT
              have p0 := HG.out.inp.cell 0; have p1 := HG.out.inp.cell 1
              simp only [List.getElem?_toArray, List.getElem?_cons_zero, List.getElem?_cons_succ] at p0 p1
              have f0 := HG.out.fb.cell 0; have f1 := HG.out.fb.cell 1; have f2 := HG.out.fb.cell 2; have f3 := HG.out.fb.cell 3
              simp only [List.getElem?_toArray, List.getElem?_cons_zero, List.getElem?_cons_succ] at f0 f1 f2 f3
              go_wp2_with fail
              refine C.out.mono ?_
              rintro e W2 ⟨A2, c2, rfl, hI, hb⟩
              have HG2 := Lib.hid (HG.out.next hb HBB.out)
              have HI2 := Lib.hid hI
              clear hb hI C HG p0 p1 f0 f1 f2 f3
              have p0 := HG2.out.inp.cell 0; have p1 := HG2.out.inp.cell 1
              have pf0 := HG2.out.inp.frozen 0; have pf1 := HG2.out.inp.frozen 1
              simp only [List.getElem?_toArray, List.getElem?_cons_zero, List.getElem?_cons_succ] at p0 p1
              have b0 := HG2.out.bb.cell 0; have b1 := HG2.out.bb.cell 1; have b2 := HG2.out.bb.cell 2; have b3 := HG2.out.bb.cell 3; have b4 := HG2.out.bb.cell 4
              have bf0 := HG2.out.bb.frozen 0; have bf1 := HG2.out.bb.frozen 1; have bf2 := HG2.out.bb.frozen 2; have bf3 := HG2.out.bb.frozen 3; have bf4 := HG2.out.bb.frozen 4
              simp only [List.getElem?_toArray, List.getElem?_cons_zero, List.getElem?_cons_succ] at b0 b1 b2 b3 b4
              have hq1 : ¬ wo.heap.size = w.heap.size := by have := HG2.out.lo; omega
              have hq2 : ¬ w.heap.size = wo.heap.size := by omega
              go_upto_region 30 with fail
              have HT := Lib.hid (HG2.out.term tm HI2.out HBB.out)
              clear HG2 HI2 p0 p1 pf0 pf1 b0 b1 b2 b3 b4 bf0 bf1 bf2 bf3 bf4
              generalize ((((((W2.setCell ⟨wo.heap.size, 1, none⟩ (.int .i64 tm.kind)).setCell ⟨wo.heap.size, 2, none⟩ (.int .i64 tm.a)).setCell ⟨wo.heap.size, 3, none⟩ (.int .i64 tm.to)).setCell ⟨wo.heap.size, 4, none⟩ (.int .i64 tm.el)).setCell ⟨w.heap.size, 0, none⟩ (.slice A2 tt.rest.length c2)).setCell ⟨w.heap.size, 1, none⟩ (.int .i64 tt.err)) = V2 at *
              obtain ⟨vs, hn, hn2⟩ := HT.out.nest
              have HN := Lib.hid hn
              have hvl := Lib.hid hn.len
              have hon := hn2.outer
              obtain ⟨Av, cv, rfl, _, _⟩ := ownS_slice hon
              have hown : (V2.alloc (.cells #[vc, .int .i64 tm.kind, .int .i64 tm.a, .int .i64 tm.to, .int .i64 tm.el] 109)).ownsRow (w.heap.size + 1 + 1 + 1 + 1) 109 5 (.slice Av vs.length cv) vs.length ((vs.zip bs).flatMap fun p => mshp.oc p.1 p.2) := ((Mods.refl No V2).alloc _).ownS hon fun _ _ hk => hk.elim
              have hnew := sees_new V2 #[vc, .int .i64 tm.kind, .int .i64 tm.a, .int .i64 tm.to, .int .i64 tm.el] 109
              have hlo := HT.out.lo
              have hvc : ∃ Ac cc, vc = .slice Ac xs.length cc := by obtain ⟨Ac, cc, h9, _⟩ := ownS_slice HT.out.own; exact ⟨Ac, cc, h9⟩
              obtain ⟨Ac, cc, rfl⟩ := hvc
              have b0 := HT.out.bb.cell 0; have b1 := HT.out.bb.cell 1; have b2 := HT.out.bb.cell 2; have b3 := HT.out.bb.cell 3; have b4 := HT.out.bb.cell 4
              simp only [List.getElem?_toArray, List.getElem?_cons_zero, List.getElem?_cons_succ] at b0 b1 b2 b3 b4
              have f0 := HT.out.fb.cell 0; have f1 := HT.out.fb.cell 1; have f2 := HT.out.fb.cell 2; have f3 := HT.out.fb.cell 3
              simp only [List.getElem?_toArray, List.getElem?_cons_zero, List.getElem?_cons_succ] at f0 f1 f2 f3
              clear hn hn2 hon
              go_wp2_with (at_builtin; refine wpList_append_any _ rfl (.tmp 106) (.tmp 108) 66 rfl (w.heap.size + 1 + 1 + 1 + 1) 109 i1 (.agg #[.slice none 0 0, .int .i64 0, .int .i64 0, .int .i64 0, .int .i64 0]) 5 56 Try.underlying66 hi1 hy0 hy1 hy2 rfl (by decide) _ _ _ rfl hown (V2.heap.size + 1) _ 1 1 _ rfl hnew rfl (moc_one18 ⟨xs, tm⟩ Ac xs.length cc) ?c1 ?c2 ?c3 ?_)
              case c1 => have := hvl.out; have := hbl.out; unfold maxLen; omega
              case c2 => have := hvl.out; have := hbl.out; omega
              case c3 => (try rw [World.size_alloc]); omega
              intro v5 W5 ho hg _
              obtain ⟨Aw, cw, rfl, _, _⟩ := ownS_slice ho
              obtain ⟨hrw, hfh⟩ := HT.out.app HBB.out HN.out ho hg
              have HF7 := Lib.hid hfh
              clear b0 b1 b2 b3 b4 f0 f1 f2 f3 hown hnew ho hg hfh HT HN
              have f2 := hrw.cell 3; have ff2 := hrw.frozen 3
              simp only [List.getElem?_toArray, List.getElem?_cons_zero, List.getElem?_cons_succ] at f2
              clear hrw
              have HE7 : Hid (FB = ((bs ++ [⟨xs, tm⟩]) ++ (mblksE r sl n g (tot + k) tt).1, (mblksE r sl n g (tot + k) tt).2)) := by
                show _ = _
                rw [HE.out]
                have e9 : mblksE r sl n (g + 1) tot t = (⟨(mblkI r sl tot t).1, (mblkT r sl n tot t).1⟩ :: (mblksE r sl n g (tot + blkK tot t) (mblkT r sl n tot t).2).1, (mblksE r sl n g (tot + blkK tot t) (mblkT r sl n tot t).2).2) := if_neg fun hh => hh HEZ.out
                rw [e9, ET.out, HI.out, show blkK tot t = k from EKK.out]
                simp only [List.append_assoc, List.singleton_append]
              go_wp2
              go_roundg g
              case measure => omega
              case rel => exact ⟨i + 1, tot + k, A2, c2, tt, _, bs ++ [(⟨xs, tm⟩ : MBlk)], by omega, by go_num, by go_num, by omega, by show _ = _; rw [List.length_append, hbl.out]; rfl, HE7.out, HF7.out⟩
            | succ g2 =>
              have hjn : (j : Int) < k := by omega
              by_cases he2 : t2.err = 0
              · have HE2Z := Lib.hid he2
                have d2 : (t2.err == 0) = true := by simp [he2]
                clear he2
                have p0 := HG.out.inp.cell 0; have p1 := HG.out.inp.cell 1
                simp only [List.getElem?_toArray, List.getElem?_cons_zero, List.getElem?_cons_succ] at p0 p1
                obtain ⟨⟨m, tm⟩, hM⟩ : ∃ y, machE r sl t2 = y := ⟨_, rfl⟩
                have EM := Lib.hid hM
                clear hM
                go_upto_region 22 with fail
                have hbx := (Below.refl wr.heap.size wr).alloc (Nat.le_refl _) (.cells #[.int .i64 0, .int .i64 0, .int .i64 0, .int .i64 0, .int .i64 0, .int .i64 0, .int .i64 0] 97)
                have HGx := Lib.hid (HG.out.next hbx HBB.out)
                have hxr := Row.new wr 97 #[.int .i64 0, .int .i64 0, .int .i64 0, .int .i64 0, .int .i64 0, .int .i64 0, .int .i64 0]
                have C := Lib.hid (rmach17_any r sl HGx.out.ip (Nat.le_trans HBB.out HGx.out.blw.size) ⟨rr.1, by omega⟩)
                rw [EM.out] at C
                have p0 := HGx.out.inp.cell 0; have p1 := HGx.out.inp.cell 1
                simp only [List.getElem?_toArray, List.getElem?_cons_zero, List.getElem?_cons_succ] at p0 p1
                have f0 := HGx.out.fb.cell 0; have f1 := HGx.out.fb.cell 1; have f2 := HGx.out.fb.cell 2; have f3 := HGx.out.fb.cell 3
                simp only [List.getElem?_toArray, List.getElem?_cons_zero, List.getElem?_cons_succ] at f0 f1 f2 f3
                go_wp2_with fail
                refine C.out.mono ?_
                rintro e W2 ⟨A2, c2, rfl, hI, hb⟩
                have hxr2 := hxr.below hb hxr.lt
                have hw2 : Below wr.heap.size wr W2 := hbx.trans (hb.mono hbx.size)
                have HG2 := Lib.hid (HGx.out.next hb HBB.out)
                have HI2 := Lib.hid hI
                have hxl := hxr2.lt
                have hBx : B ≤ wr.heap.size := Nat.le_trans HBB.out HG.out.blw.size
                have hown0 : ∀ k, vc.ownBlock = some k → k < wr.heap.size := fun k hk => (ownS_lt HG.out.own k hk).2
                clear hb hI C p0 p1 f0 f1 f2 f3 hxr HGx hbx
                have p0 := HG2.out.inp.cell 0; have p1 := HG2.out.inp.cell 1
                have pf0 := HG2.out.inp.frozen 0; have pf1 := HG2.out.inp.frozen 1
                simp only [List.getElem?_toArray, List.getElem?_cons_zero, List.getElem?_cons_succ] at p0 p1
                have y0 := hxr2.cell 0; have y1 := hxr2.cell 1; have y2 := hxr2.cell 2; have y3 := hxr2.cell 3; have y4 := hxr2.cell 4; have y5 := hxr2.cell 5; have y6 := hxr2.cell 6
                have yf0 := hxr2.frozen 0; have yf1 := hxr2.frozen 1; have yf2 := hxr2.frozen 2; have yf3 := hxr2.frozen 3; have yf4 := hxr2.frozen 4; have yf5 := hxr2.frozen 5; have yf6 := hxr2.frozen 6
                simp only [List.getElem?_toArray, List.getElem?_cons_zero, List.getElem?_cons_succ] at y0 y1 y2 y3 y4 y5 y6
                have hq1 : ¬ wr.heap.size = w.heap.size := by have := HG.out.lo; omega
                have hq2 : ¬ w.heap.size = wr.heap.size := by omega
                have hq3 : ¬ wr.heap.size = wo.heap.size := by have := HG.out.lo; omega
                go_upto_region 23 with fail
                have hm5 := mods7i W2 wr.heap.size (.int .i64 m.op) (.int .i64 m.d) (.int .i64 m.a) (.int .i64 m.b) (.int .i64 m.imm) (.int .i64 m.dst) (.int .i64 m.src)
                have hb5 : Below wr.heap.size wr (((((((W2.setCell ⟨wr.heap.size, 0, none⟩ (.int .i64 m.op)).setCell ⟨wr.heap.size, 1, none⟩ (.int .i64 m.d)).setCell ⟨wr.heap.size, 2, none⟩ (.int .i64 m.a)).setCell ⟨wr.heap.size, 3, none⟩ (.int .i64 m.b)).setCell ⟨wr.heap.size, 4, none⟩ (.int .i64 m.imm)).setCell ⟨wr.heap.size, 5, none⟩ (.int .i64 m.dst)).setCell ⟨wr.heap.size, 6, none⟩ (.int .i64 m.src)) := hw2.trans (hm5.below hw2.size fun k hk => by unfold Is at hk; omega)
                have HG3 := Lib.hid ((HG.out.next hb5 HBB.out).inpt (HI2.out.below (hm5.below (by have := hw2.size; omega) fun k hk => by unfold Is at hk; omega)) HBB.out)
                have hxr3 : Row (((((((((W2.setCell ⟨wr.heap.size, 0, none⟩ (.int .i64 m.op)).setCell ⟨wr.heap.size, 1, none⟩ (.int .i64 m.d)).setCell ⟨wr.heap.size, 2, none⟩ (.int .i64 m.a)).setCell ⟨wr.heap.size, 3, none⟩ (.int .i64 m.b)).setCell ⟨wr.heap.size, 4, none⟩ (.int .i64 m.imm)).setCell ⟨wr.heap.size, 5, none⟩ (.int .i64 m.dst)).setCell ⟨wr.heap.size, 6, none⟩ (.int .i64 m.src)).setCell ⟨w.heap.size, 0, none⟩ (.slice A2 tm.rest.length c2)).setCell ⟨w.heap.size, 1, none⟩ (.int .i64 tm.err)) wr.heap.size 97 #[.int .i64 m.op, .int .i64 m.d, .int .i64 m.a, .int .i64 m.b, .int .i64 m.imm, .int .i64 m.dst, .int .i64 m.src] := ((hxr2.put7i _ _ _ _ _ _ _).far (q := ⟨w.heap.size, 0, none⟩) hq1 _).far (q := ⟨w.heap.size, 1, none⟩) hq1 _
                clear p0 p1 pf0 pf1 y0 y1 y2 y3 y4 y5 y6 yf0 yf1 yf2 yf3 yf4 yf5 yf6 hm5 hb5 hw2 hxr2 HG2 HI2
                generalize (((((((((W2.setCell ⟨wr.heap.size, 0, none⟩ (.int .i64 m.op)).setCell ⟨wr.heap.size, 1, none⟩ (.int .i64 m.d)).setCell ⟨wr.heap.size, 2, none⟩ (.int .i64 m.a)).setCell ⟨wr.heap.size, 3, none⟩ (.int .i64 m.b)).setCell ⟨wr.heap.size, 4, none⟩ (.int .i64 m.imm)).setCell ⟨wr.heap.size, 5, none⟩ (.int .i64 m.dst)).setCell ⟨wr.heap.size, 6, none⟩ (.int .i64 m.src)).setCell ⟨w.heap.size, 0, none⟩ (.slice A2 tm.rest.length c2)).setCell ⟨w.heap.size, 1, none⟩ (.int .i64 tm.err)) = V3 at *
                obtain ⟨Ac, cc, rfl, _, _⟩ := ownS_slice HG3.out.own
                have hown : (V3.alloc (.cells #[.int .i64 m.op, .int .i64 m.d, .int .i64 m.a, .int .i64 m.b, .int .i64 m.imm, .int .i64 m.dst, .int .i64 m.src] 97)).ownsRow wo.heap.size 97 7 (.slice Ac xs.length cc) xs.length (xs.flatMap Mi.cells) := ((Mods.refl No V3).alloc _).ownS HG3.out.own fun _ _ hk => hk.elim
                have hnew := sees_new V3 #[.int .i64 m.op, .int .i64 m.d, .int .i64 m.a, .int .i64 m.b, .int .i64 m.imm, .int .i64 m.dst, .int .i64 m.src] 97
                have hlo := HG3.out.lo
                have b0 := HG3.out.bb.cell 0; have b1 := HG3.out.bb.cell 1; have b2 := HG3.out.bb.cell 2; have b3 := HG3.out.bb.cell 3; have b4 := HG3.out.bb.cell 4
                simp only [List.getElem?_toArray, List.getElem?_cons_zero, List.getElem?_cons_succ] at b0 b1 b2 b3 b4
                have y0 := hxr3.cell 0; have y1 := hxr3.cell 1; have y2 := hxr3.cell 2; have y3 := hxr3.cell 3; have y4 := hxr3.cell 4; have y5 := hxr3.cell 5; have y6 := hxr3.cell 6
                simp only [List.getElem?_toArray, List.getElem?_cons_zero, List.getElem?_cons_succ] at y0 y1 y2 y3 y4 y5 y6
                go_wp2_with (at_builtin; refine wpList_append_any _ rfl (.tmp 82) (.tmp 84) 107 rfl wo.heap.size 97 i0 (.agg #[.int .i64 0, .int .i64 0, .int .i64 0, .int .i64 0, .int .i64 0, .int .i64 0, .int .i64 0]) 7 56 Try.underlying107 hi0 hz0 hz1 hz2 rfl (by decide) _ _ _ rfl hown (V3.heap.size + 1) _ 1 1 _ rfl hnew rfl (mi_one18 m) ?c1 ?c2 ?c3 ?_)
                case c1 => have := hxl2.out; unfold maxLen; omega
                case c2 => have := hxl2.out; omega
                case c3 => (try rw [World.size_alloc]); omega
                intro v5 W5 ho hg _
                obtain ⟨Aw, cw, rfl, _, _⟩ := ownS_slice ho
                obtain ⟨hrw, hgh⟩ := HG3.out.app HBB.out m ho hg
                have HG7 := Lib.hid hgh
                have hxr5 : Row W5 wr.heap.size 97 #[.int .i64 m.op, .int .i64 m.d, .int .i64 m.a, .int .i64 m.b, .int .i64 m.imm, .int .i64 m.dst, .int .i64 m.src] := (hg.block _ (by rw [World.size_alloc]; have := hxr3.lt; omega) (fun e => by have := hown0 _ e.symm; omega)).trans (hxr3.alloc _)
                have HX6 := Lib.hid (hxr5.far (q := ⟨wo.heap.size, 0, none⟩) hq3 (.slice Aw (xs.length + 1) cw))
                clear b0 b1 b2 b3 b4 y0 y1 y2 y3 y4 y5 y6 hown hnew ho hg hgh HG3 hxr3 hxr5 hown0
                have b0 := hrw.cell 0; have bf0 := hrw.frozen 0
                simp only [List.getElem?_toArray, List.getElem?_cons_zero, List.getElem?_cons_succ] at b0
                clear hrw
                go_upto_region 25 with fail
                generalize (W5.setCell ⟨wo.heap.size, 0, none⟩ (.slice Aw (xs.length + 1) cw)) = W6 at *
                clear b0 bf0
                have y0 := HX6.out.cell 0
                simp only [List.getElem?_toArray, List.getElem?_cons_zero, List.getElem?_cons_succ] at y0
                clear HX6
                by_cases h18 : m.op = 18
                · have dz : (m.op != 18) = false := by simp [h18]
                  have HX : Hid (ext run m = run + 1) := by show _ = _; unfold ext Mi.mv; rw [h18]; rfl
                  clear h18
                  by_cases h64 : 64 < run + 1
                  · have h64z : (64 : Int) < (run : Int) + 1 := by omega
                    have HMV : Hid (mvE run m tm = failE 15 tm) := by show _ = _; unfold mvE; rw [HX.out, if_pos h64]
                    clear h64
                    have C := Lib.hid (rfail18_any 15 HG7.out.ip (Nat.le_trans HBB.out HG7.out.blw.size))
                    have p0 := HG7.out.inp.cell 0; have p1 := HG7.out.inp.cell 1
                    simp only [List.getElem?_toArray, List.getElem?_cons_zero, List.getElem?_cons_succ] at p0 p1
                    go_wp2_with fail
                    refine C.out.mono ?_
                    rintro e W8 ⟨A8, c8, rfl, hI, hb⟩
                    have HG7b := Lib.hid (HG7.out.next hb HBB.out)
                    have HI8 := Lib.hid hI
                    clear hb hI C p0 p1 HG7
                    have p0 := HG7b.out.inp.cell 0; have p1 := HG7b.out.inp.cell 1
                    have pf0 := HG7b.out.inp.frozen 0; have pf1 := HG7b.out.inp.frozen 1
                    simp only [List.getElem?_toArray, List.getElem?_cons_zero, List.getElem?_cons_succ] at p0 p1
                    have HG8 := Lib.hid (HG7b.out.inpt HI8.out HBB.out)
                    have HI7 : Hid (mblkI r sl tot t = ((xs ++ [m]) ++ (miE r sl g2 (run + 1) (failE 15 tm)).1, (miE r sl g2 (run + 1) (failE 15 tm)).2)) := by
                      show _ = _
                      rw [HI.out]
                      have e9 : miE r sl (g2 + 1) run t2 = ((machE r sl t2).1 :: (miE r sl g2 (ext run (machE r sl t2).1) (mvE run (machE r sl t2).1 (machE r sl t2).2)).1, (miE r sl g2 (ext run (machE r sl t2).1) (mvE run (machE r sl t2).1 (machE r sl t2).2)).2) := if_neg fun hh => hh HE2Z.out
                      rw [e9, EM.out]
                      dsimp only
                      rw [HX.out, HMV.out]
                      simp only [List.append_assoc, List.singleton_append]
                    go_wp2
                    go_roundg g2
                    case measure => omega
                    case rel => exact ⟨j + 1, run + 1, A8, c8, failE 15 tm, _, xs ++ [m], by omega, by go_num, by go_num, by omega, by show _ = _; rw [List.length_append, hxl2.out]; rfl, HI7.out, HG8.out⟩
                  · have h64z : ¬ (64 : Int) < (run : Int) + 1 := by omega
                    have HMV : Hid (mvE run m tm = tm) := by show _ = _; unfold mvE; rw [HX.out, if_neg h64]
                    clear h64
                    have HG8 := HG7
                    have HI7 : Hid (mblkI r sl tot t = ((xs ++ [m]) ++ (miE r sl g2 (run + 1) tm).1, (miE r sl g2 (run + 1) tm).2)) := by
                      show _ = _
                      rw [HI.out]
                      have e9 : miE r sl (g2 + 1) run t2 = ((machE r sl t2).1 :: (miE r sl g2 (ext run (machE r sl t2).1) (mvE run (machE r sl t2).1 (machE r sl t2).2)).1, (miE r sl g2 (ext run (machE r sl t2).1) (mvE run (machE r sl t2).1 (machE r sl t2).2)).2) := if_neg fun hh => hh HE2Z.out
                      rw [e9, EM.out]
                      dsimp only
                      rw [HX.out, HMV.out]
                      simp only [List.append_assoc, List.singleton_append]
                    go_wp2
                    go_roundg g2
                    case measure => omega
                    case rel => exact ⟨j + 1, run + 1, A2, c2, tm, _, xs ++ [m], by omega, by go_num, by go_num, by omega, by show _ = _; rw [List.length_append, hxl2.out]; rfl, HI7.out, HG8.out⟩
                · have dz : (m.op != 18) = true := by simp [h18]
                  have HX : Hid (ext run m = 0) := by show _ = _; unfold ext Mi.mv; rw [show (m.op == 18) = false from beq_eq_false_iff_ne.2 h18]; rfl
                  have HMV : Hid (mvE run m tm = tm) := by show _ = _; unfold mvE; rw [HX.out, if_neg (by decide)]
                  clear h18
                  have HG8 := HG7
                  have HI7 : Hid (mblkI r sl tot t = ((xs ++ [m]) ++ (miE r sl g2 0 tm).1, (miE r sl g2 0 tm).2)) := by
                    show _ = _
                    rw [HI.out]
                    have e9 : miE r sl (g2 + 1) run t2 = ((machE r sl t2).1 :: (miE r sl g2 (ext run (machE r sl t2).1) (mvE run (machE r sl t2).1 (machE r sl t2).2)).1, (miE r sl g2 (ext run (machE r sl t2).1) (mvE run (machE r sl t2).1 (machE r sl t2).2)).2) := if_neg fun hh => hh HE2Z.out
                    rw [e9, EM.out]
                    dsimp only
                    rw [HX.out, HMV.out]
                    simp only [List.append_assoc, List.singleton_append]
                  go_wp2
                  go_roundg g2
                  case measure => omega
                  case rel => exact ⟨j + 1, 0, A2, c2, tm, _, xs ++ [m], by omega, by go_num, by go_num, by omega, by show _ = _; rw [List.length_append, hxl2.out]; rfl, HI7.out, HG8.out⟩
              · have d2 : (t2.err == 0) = false := by simp [he2]
                replace HI : Hid (mblkI r sl tot t = (xs, t2)) := by show _ = _; rw [HI.out, miE_err he2]; show (xs ++ [], t2) = _; rw [List.append_nil]
                clear he2
                obtain ⟨⟨tm, tt⟩, hT⟩ : ∃ y, termE r n t2 = y := ⟨_, rfl⟩
                have ET : Hid (mblkT r sl n tot t = (tm, tt)) := by show _ = _; unfold mblkT; rw [HI.out]; exact hT
                have C := Lib.hid (rterm17_any r n HG.out.ip (Nat.le_trans HBB.out HG.out.blw.size) ⟨rr.1, by omega⟩ ⟨rn.1, by omega⟩)
                rw [hT] at C
                clear hT
                have p0 := HG.out.inp.cell 0; have p1 := HG.out.inp.cell 1
                simp only [List.getElem?_toArray, List.getElem?_cons_zero, List.getElem?_cons_succ] at p0 p1
                have f0 := HG.out.fb.cell 0; have f1 := HG.out.fb.cell 1; have f2 := HG.out.fb.cell 2; have f3 := HG.out.fb.cell 3
                simp only [List.getElem?_toArray, List.getElem?_cons_zero, List.getElem?_cons_succ] at f0 f1 f2 f3
                go_wp2_with fail
                refine C.out.mono ?_
                rintro e W2 ⟨A2, c2, rfl, hI, hb⟩
                have HG2 := Lib.hid (HG.out.next hb HBB.out)
                have HI2 := Lib.hid hI
                clear hb hI C HG p0 p1 f0 f1 f2 f3
                have p0 := HG2.out.inp.cell 0; have p1 := HG2.out.inp.cell 1
                have pf0 := HG2.out.inp.frozen 0; have pf1 := HG2.out.inp.frozen 1
                simp only [List.getElem?_toArray, List.getElem?_cons_zero, List.getElem?_cons_succ] at p0 p1
                have b0 := HG2.out.bb.cell 0; have b1 := HG2.out.bb.cell 1; have b2 := HG2.out.bb.cell 2; have b3 := HG2.out.bb.cell 3; have b4 := HG2.out.bb.cell 4
                have bf0 := HG2.out.bb.frozen 0; have bf1 := HG2.out.bb.frozen 1; have bf2 := HG2.out.bb.frozen 2; have bf3 := HG2.out.bb.frozen 3; have bf4 := HG2.out.bb.frozen 4
                simp only [List.getElem?_toArray, List.getElem?_cons_zero, List.getElem?_cons_succ] at b0 b1 b2 b3 b4
                have hq1 : ¬ wo.heap.size = w.heap.size := by have := HG2.out.lo; omega
                have hq2 : ¬ w.heap.size = wo.heap.size := by omega
                go_upto_region 30 with fail
                have HT := Lib.hid (HG2.out.term tm HI2.out HBB.out)
                clear HG2 HI2 p0 p1 pf0 pf1 b0 b1 b2 b3 b4 bf0 bf1 bf2 bf3 bf4
                generalize ((((((W2.setCell ⟨wo.heap.size, 1, none⟩ (.int .i64 tm.kind)).setCell ⟨wo.heap.size, 2, none⟩ (.int .i64 tm.a)).setCell ⟨wo.heap.size, 3, none⟩ (.int .i64 tm.to)).setCell ⟨wo.heap.size, 4, none⟩ (.int .i64 tm.el)).setCell ⟨w.heap.size, 0, none⟩ (.slice A2 tt.rest.length c2)).setCell ⟨w.heap.size, 1, none⟩ (.int .i64 tt.err)) = V2 at *
                obtain ⟨vs, hn, hn2⟩ := HT.out.nest
                have HN := Lib.hid hn
                have hvl := Lib.hid hn.len
                have hon := hn2.outer
                obtain ⟨Av, cv, rfl, _, _⟩ := ownS_slice hon
                have hown : (V2.alloc (.cells #[vc, .int .i64 tm.kind, .int .i64 tm.a, .int .i64 tm.to, .int .i64 tm.el] 109)).ownsRow (w.heap.size + 1 + 1 + 1 + 1) 109 5 (.slice Av vs.length cv) vs.length ((vs.zip bs).flatMap fun p => mshp.oc p.1 p.2) := ((Mods.refl No V2).alloc _).ownS hon fun _ _ hk => hk.elim
                have hnew := sees_new V2 #[vc, .int .i64 tm.kind, .int .i64 tm.a, .int .i64 tm.to, .int .i64 tm.el] 109
                have hlo := HT.out.lo
                have hvc : ∃ Ac cc, vc = .slice Ac xs.length cc := by obtain ⟨Ac, cc, h9, _⟩ := ownS_slice HT.out.own; exact ⟨Ac, cc, h9⟩
                obtain ⟨Ac, cc, rfl⟩ := hvc
                have b0 := HT.out.bb.cell 0; have b1 := HT.out.bb.cell 1; have b2 := HT.out.bb.cell 2; have b3 := HT.out.bb.cell 3; have b4 := HT.out.bb.cell 4
                simp only [List.getElem?_toArray, List.getElem?_cons_zero, List.getElem?_cons_succ] at b0 b1 b2 b3 b4
                have f0 := HT.out.fb.cell 0; have f1 := HT.out.fb.cell 1; have f2 := HT.out.fb.cell 2; have f3 := HT.out.fb.cell 3
                simp only [List.getElem?_toArray, List.getElem?_cons_zero, List.getElem?_cons_succ] at f0 f1 f2 f3
                clear hn hn2 hon
                go_wp2_with (at_builtin; refine wpList_append_any _ rfl (.tmp 106) (.tmp 108) 66 rfl (w.heap.size + 1 + 1 + 1 + 1) 109 i1 (.agg #[.slice none 0 0, .int .i64 0, .int .i64 0, .int .i64 0, .int .i64 0]) 5 56 Try.underlying66 hi1 hy0 hy1 hy2 rfl (by decide) _ _ _ rfl hown (V2.heap.size + 1) _ 1 1 _ rfl hnew rfl (moc_one18 ⟨xs, tm⟩ Ac xs.length cc) ?c1 ?c2 ?c3 ?_)
                case c1 => have := hvl.out; have := hbl.out; unfold maxLen; omega
                case c2 => have := hvl.out; have := hbl.out; omega
                case c3 => (try rw [World.size_alloc]); omega
                intro v5 W5 ho hg _
                obtain ⟨Aw, cw, rfl, _, _⟩ := ownS_slice ho
                obtain ⟨hrw, hfh⟩ := HT.out.app HBB.out HN.out ho hg
                have HF7 := Lib.hid hfh
                clear b0 b1 b2 b3 b4 f0 f1 f2 f3 hown hnew ho hg hfh HT HN
                have f2 := hrw.cell 3; have ff2 := hrw.frozen 3
                simp only [List.getElem?_toArray, List.getElem?_cons_zero, List.getElem?_cons_succ] at f2
                clear hrw
                have HE7 : Hid (FB = ((bs ++ [⟨xs, tm⟩]) ++ (mblksE r sl n g (tot + k) tt).1, (mblksE r sl n g (tot + k) tt).2)) := by
                  show _ = _
                  rw [HE.out]
                  have e9 : mblksE r sl n (g + 1) tot t = (⟨(mblkI r sl tot t).1, (mblkT r sl n tot t).1⟩ :: (mblksE r sl n g (tot + blkK tot t) (mblkT r sl n tot t).2).1, (mblksE r sl n g (tot + blkK tot t) (mblkT r sl n tot t).2).2) := if_neg fun hh => hh HEZ.out
                  rw [e9, ET.out, HI.out, show blkK tot t = k from EKK.out]
                  simp only [List.append_assoc, List.singleton_append]
                go_wp2
                go_roundg g
                case measure => omega
                case rel => exact ⟨i + 1, tot + k, A2, c2, tt, _, bs ++ [(⟨xs, tm⟩ : MBlk)], by omega, by go_num, by go_num, by omega, by show _ = _; rw [List.length_append, hbl.out]; rfl, HE7.out, HF7.out⟩

end Go.Proofs.Ytkapmfopfddmbaa
