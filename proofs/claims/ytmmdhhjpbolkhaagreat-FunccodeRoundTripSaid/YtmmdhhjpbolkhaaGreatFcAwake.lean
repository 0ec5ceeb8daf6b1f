/-
  The fixed examples that every statement of layer 18 checks first: they come out true, and nothing that was there turns.
-/
import Derived.Test.YtmmdhhjpbolkhaaGreatFcProg
import Derived.Test.YtmmdhhjpbolkhaaGreatSmSrc
import Derived.Test.YtmmdhhjpbolkhaaGreatPk6
namespace Go.Proofs.YtmmdhhjpbolkhaaGreat
open Go.RowKit
set_option linter.unusedVariables false

/-- The example of the document: one block without instructions that returns register 0. -/
def fcEx : Fd := ⟨0, 1, [⟨[], ⟨3, 0, 0, 0⟩⟩]⟩

theorem fcEx_vf : VF fcEx := ⟨by decide, by decide, by decide, by decide, fun b hb => by
  obtain rfl := List.mem_singleton.1 hb
  exact ⟨fun y hy => (by cases hy), by decide, by decide, fun _ => (by decide), fun h => (by cases h), fun h => (by cases h)⟩⟩

theorem fcEx_at {W : World} {p q : Nat} {T : TypeId} (h : Row W p T #[.slice none 0 0, .int .i64 3, .int .i64 0, .int .i64 0, .int .i64 0]) (hp : p < q) : BlksAt W q (some ⟨p, 0, none⟩) fcEx.bs := fun _ => by
  have c0 := h.cell 0; have c1 := h.cell 1; have c2 := h.cell 2; have c3 := h.cell 3; have c4 := h.cell 4
  simp only [List.getElem?_toArray, List.getElem?_cons_zero, List.getElem?_cons_succ] at c0 c1 c2 c3 c4
  refine ⟨p, 0, rfl, hp, fun i x hx => ?_⟩
  have hi : i = 0 := by
    have := (List.getElem?_eq_some_iff.1 hx).1
    have h1 : fcEx.bs.length = 1 := rfl
    omega
  subst hi
  have hx' : some (⟨[], ⟨3, 0, 0, 0⟩⟩ : Blk) = some x := hx
  injection hx' with hx'
  subst hx'
  exact ⟨⟨none, 0, c0, Nat.le_refl _, Nat.zero_le _, InsAt.nil⟩, c1, c2, c3, c4⟩

theorem fcEx_read : funcE ⟨[0, 1, 1, 0, 3, 0], 0⟩ = (fcEx, ⟨[], 0⟩) := funcE_put (f := fcEx) (by decide) (fun b hb x hx => by
  obtain rfl := List.mem_singleton.1 hb
  cases hx) []

theorem fcNo_read : (funcE ⟨[0, 1, 0, 0, 0], 0⟩).1 = ⟨0, 0, []⟩ ∧ (funcE ⟨[0, 1, 0, 0, 0], 0⟩).2.err = 14 := by
  constructor <;> rfl

set_option maxRecDepth 100000 in
set_option maxHeartbeats 1600000 in
theorem awake18_any (w : World) : Calls Tryz.prog 5 #[] w fun e w' => e = .returned (.bool true) ∧ Below w.heap.size w w' := by
  go_enter Tryz.func5, Tryz.ntmps5
  go_upto_region 3 with fail
  have HM0 := Lib.hid ((((Mods.refl (From w.heap.size) w).alloc (.cells #[.slice none 0 0, .int .i64 3, .int .i64 0, .int .i64 0, .int .i64 0] 60)).alloc (.cells #[.int .i64 0, .int .i64 1, .slice (some ⟨w.heap.size, 0, none⟩) 1 1] 24)).alloc (.cells #[.slice none 0 0] 36))
  have hw0 := Wri.new ((w.alloc (.cells #[.slice none 0 0, .int .i64 3, .int .i64 0, .int .i64 0, .int .i64 0] 60)).alloc (.cells #[.int .i64 0, .int .i64 1, .slice (some ⟨w.heap.size, 0, none⟩) 1 1] 24))
  simp only [World.size_alloc] at hw0
  have HW0 := Lib.hid hw0
  have HR0 := Lib.hid (((Row.new w 60 #[.slice none 0 0, .int .i64 3, .int .i64 0, .int .i64 0, .int .i64 0]).alloc (.cells #[.int .i64 0, .int .i64 1, .slice (some ⟨w.heap.size, 0, none⟩) 1 1] 24)).alloc (.cells #[.slice none 0 0] 36))
  have HF0 := Lib.hid ((Row.new' (W := w.alloc (.cells #[.slice none 0 0, .int .i64 3, .int .i64 0, .int .i64 0, .int .i64 0] 60)) (p := w.heap.size + 1) (by simp) 24 #[.int .i64 0, .int .i64 1, .slice (some ⟨w.heap.size, 0, none⟩) 1 1]).alloc (.cells #[.slice none 0 0] 36))
  have HZ0 : Hid (w.heap.size + 1 + 1 + 1 ≤ (((w.alloc (.cells #[.slice none 0 0, .int .i64 3, .int .i64 0, .int .i64 0, .int .i64 0] 60)).alloc (.cells #[.int .i64 0, .int .i64 1, .slice (some ⟨w.heap.size, 0, none⟩) 1 1] 24)).alloc (.cells #[.slice none 0 0] 36)).heap.size) := by show _ ≤ _; simp
  clear hw0
  generalize (((w.alloc (.cells #[.slice none 0 0, .int .i64 3, .int .i64 0, .int .i64 0, .int .i64 0] 60)).alloc (.cells #[.int .i64 0, .int .i64 1, .slice (some ⟨w.heap.size, 0, none⟩) 1 1] 24)).alloc (.cells #[.slice none 0 0] 36)) = W0 at *
  have f0 := HF0.out.cell 0; have f1 := HF0.out.cell 1; have f2 := HF0.out.cell 2
  simp only [List.getElem?_toArray, List.getElem?_cons_zero, List.getElem?_cons_succ] at f0 f1 f2
  have C : Hid (Calls Tryz.prog 10 #[.pointer (some ⟨w.heap.size + 1 + 1, 0, none⟩), .agg #[.int .i64 0, .int .i64 1, .slice (some ⟨w.heap.size, 0, none⟩) 1 1]] W0 (Wrote W0 (w.heap.size + 1 + 1) [0, 1, 1, 0, 3, 0])) :=
    pputf_any HW0.out (by decide) HZ0.out fcEx_vf (c := 1) (fcEx_at HR0.out (by omega)) (by decide)
  go_wp2_with fail
  refine C.out.mono ?_
  rintro e W1 ⟨rfl, ⟨v1, hw1⟩, hm1⟩
  have HW1 := Lib.hid hw1
  have HM1 := Lib.hid (HM0.out.then hm1 (fun k hk => by unfold From at *; omega))
  have HR1 := Lib.hid (HR0.out.mods hm1 (by unfold From; omega))
  have HF1 := Lib.hid (HF0.out.mods hm1 (by unfold From; omega))
  clear hw1 hm1 C HM0 HW0 HR0 HF0 HZ0 f0 f1 f2
  go_wp2_with fail
  refine (new_lit [0, 1, 1, 0, 3, 0] _ _ _ W1 _ rfl rfl rfl (by decide) (by decide)).mono ?_
  rintro e W2 ⟨p, A, c, rfl, hp, hc, hm2⟩
  have HW2 := Lib.hid (HW1.out.mods hm2 fun _ h => h.elim)
  have HM2 := Lib.hid (HM1.out.then hm2 fun k h => h.elim)
  have HR2 := Lib.hid (HR1.out.mods hm2 fun h => h.elim)
  have HF2 := Lib.hid (HF1.out.mods hm2 fun h => h.elim)
  have HC2 := Lib.hid hc
  have HP := Lib.hid hp
  have HZ1 : Hid (w.heap.size + 1 + 1 < W1.heap.size) := HW1.out.row.lt
  clear hc hp hm2 HW1 HM1 HR1 HF1
  go_wp2_with fail
  refine (new_lit [0, 1, 0, 0, 0] _ _ _ W2 _ rfl rfl rfl (by decide) (by decide)).mono ?_
  rintro e W3 ⟨p2, A2, c2, rfl, hp2, hc2, hm3⟩
  have HW3 := Lib.hid (HW2.out.mods hm3 fun _ h => h.elim)
  have HM3 := Lib.hid (HM2.out.then hm3 fun k h => h.elim)
  have HR3 := Lib.hid (HR2.out.mods hm3 fun h => h.elim)
  have HF3 := Lib.hid (HF2.out.mods hm3 fun h => h.elim)
  have HC3 := Lib.hid (HC2.out.mods hm3 fun _ h => h.elim)
  have HD3 := Lib.hid hc2
  have HPW := Lib.hid HC2.out.row.lt
  have HP2 : Hid (p < p2) := by have := HC2.out.row.lt; show p < p2; omega
  clear hc2 hp2 hm3 HW2 HM2 HR2 HF2 HC2
  go_wp2_with fail
  refine (pfunc_any HC3.out (f := fcEx) (t := ⟨[], 0⟩) fcEx_read).mono ?_
  rintro e W4 ⟨vg, vs, rfl, hn, hm4, i4, hc4, hd4⟩
  obtain ⟨Ag, cg, rfl, hg1, hg2, hbg⟩ := nest_blks hn
  have HW4 := Lib.hid ((HW3.out.mods hm4 fun k hk => by unfold Is at hk; have := HP.out; omega).mods (S := No) ((Mods.refl _ _).alloc (.cells #[.int .i64 fcEx.args, .int .i64 fcEx.regs, .slice Ag fcEx.bs.length cg] 24)) fun _ h => h.elim)
  have HM4 := Lib.hid ((HM3.out.then hm4 fun k hk => by unfold Is at hk; unfold From; have := HP.out; have := HZ1.out; omega).alloc (.cells #[.int .i64 fcEx.args, .int .i64 fcEx.regs, .slice Ag fcEx.bs.length cg] 24))
  have HR4 := Lib.hid ((HR3.out.mods hm4 fun h => by unfold Is at h; have := HP.out; have := HZ1.out; omega).alloc (.cells #[.int .i64 fcEx.args, .int .i64 fcEx.regs, .slice Ag fcEx.bs.length cg] 24))
  have HF4 := Lib.hid ((HF3.out.mods hm4 fun h => by unfold Is at h; have := HP.out; have := HZ1.out; omega).alloc (.cells #[.int .i64 fcEx.args, .int .i64 fcEx.regs, .slice Ag fcEx.bs.length cg] 24))
  have HC4 := Lib.hid (hc4.mods (S := No) ((Mods.refl _ _).alloc (.cells #[.int .i64 fcEx.args, .int .i64 fcEx.regs, .slice Ag fcEx.bs.length cg] 24)) fun _ h => h.elim)
  have HD4 := Lib.hid ((HD3.out.mods hm4 fun k hk => by unfold Is at hk; have := HPW.out; omega).mods (S := No) ((Mods.refl _ _).alloc (.cells #[.int .i64 fcEx.args, .int .i64 fcEx.regs, .slice Ag fcEx.bs.length cg] 24)) fun _ h => h.elim)
  have HN4 := Lib.hid (hn.mods ((Mods.refl No W4).alloc (.cells #[.int .i64 fcEx.args, .int .i64 fcEx.regs, .slice Ag fcEx.bs.length cg] 24)) fun _ _ _ h => h)
  have HG4 := Lib.hid (Row.new W4 24 #[.int .i64 fcEx.args, .int .i64 fcEx.regs, .slice Ag fcEx.bs.length cg])
  have HP4 := Lib.hid hc4.row.lt
  have HL : Hid (i4 = 6) := by
    show _ = _
    have h := congrArg List.length (hd4 rfl)
    rw [List.length_drop] at h
    have := hc4.le
    simp only [List.length_cons, List.length_nil] at h this
    omega
  have HQ4 : Hid (W3.heap.size ≤ W4.heap.size) := hm4.size
  clear hn hm4 hc4 hd4 hbg HW3 HM3 HR3 HF3 HC3
  go_upto_region 9 with fail
  generalize (W4.alloc (.cells #[.int .i64 fcEx.args, .int .i64 fcEx.regs, .slice Ag fcEx.bs.length cg] 24)) = V4 at *
  have HSV := Lib.hid HG4.out.lt
  have C5 : Hid (Calls Tryz.prog 18 #[.pointer (some ⟨p2, 0, none⟩)] V4 fun e W' => ∃ A5 c5 i5, e = .returned (.agg #[.int .i64 0, .int .i64 0, .slice A5 0 c5]) ∧ Mods (Is p2) V4 W' ∧ Cur W' (W2.heap.size + 1) p2 [0, 1, 0, 0, 0] i5 14 A2 c2) :=
    (pfunc_any HD4.out (f := ⟨0, 0, []⟩) (t := (funcE ⟨[0, 1, 0, 0, 0], 0⟩).2) (by rw [← fcNo_read.1]; rfl)).mono (by
      rintro e W' ⟨v, vs, rfl, hn, hm, i', hc, _⟩
      obtain ⟨A5, c5, rfl, _, _, _⟩ := nest_blks hn
      rw [fcNo_read.2] at hc
      exact ⟨A5, c5, i', rfl, hm, hc⟩)
  go_wp2_with fail
  refine C5.out.mono ?_
  rintro e W5 ⟨A5, c5, i5, rfl, hm5, hc5⟩
  clear C5
  have hp2 : Hid (W3.heap.size > p2) := HD3.out.row.lt
  have ha := (Mods.refl No W5).alloc (.cells #[.int .i64 0, .int .i64 0, .slice A5 0 c5] 24)
  have HW5 := Lib.hid ((HW4.out.mods hm5 fun k hk => by unfold Is at hk; have := HP.out; have := HP2.out; omega).mods ha fun _ h => h.elim)
  have HM5 := Lib.hid ((HM4.out.then hm5 fun k hk => by unfold Is at hk; unfold From; have := HP.out; have := HP2.out; have := HZ1.out; omega).then ha fun _ h => h.elim)
  have HR5 := Lib.hid ((HR4.out.mods hm5 fun h => by unfold Is at h; have := HP.out; have := HP2.out; have := HZ1.out; omega).mods ha fun h => h.elim)
  have HF5 := Lib.hid ((HF4.out.mods hm5 fun h => by unfold Is at h; have := HP.out; have := HP2.out; have := HZ1.out; omega).mods ha fun h => h.elim)
  have HC5 := Lib.hid ((HC4.out.mods hm5 fun k hk => by unfold Is at hk; have := HP2.out; omega).mods ha fun _ h => h.elim)
  have HD5 := Lib.hid (hc5.mods ha fun _ h => h.elim)
  have HG5 := Lib.hid ((HG4.out.mods hm5 fun h => by unfold Is at h; have := hp2.out; have := HQ4.out; omega).mods ha fun h => h.elim)
  have HE5 := Lib.hid (Row.new W5 24 #[.int .i64 0, .int .i64 0, .slice A5 0 c5])
  have HN5 := Lib.hid ((HN4.out.mods hm5 fun k h1 _ h2 => by unfold Is at h2; have := hp2.out; omega).mods ha fun _ _ _ h => h)
  clear hm5 hc5 ha HW4 HM4 HR4 HF4 HC4 HD4 HG4 HN4 hp2
  go_upto_region 10 with fail
  generalize (W5.alloc (.cells #[.int .i64 0, .int .i64 0, .slice A5 0 c5] 24)) = V5 at *
  go_wp2_with fail
  refine (out_any HW5.out (by decide)).mono ?_
  rintro e W6 ⟨A6, c6, rfl, ho, hb⟩
  have hm6 : Mods No V5 W6 := Mods.of_below hb
  have HM6 := Lib.hid (HM5.out.then hm6 fun _ h => h.elim)
  have HR6 := Lib.hid (HR5.out.mods hm6 fun h => h.elim)
  have HF6 := Lib.hid (HF5.out.mods hm6 fun h => h.elim)
  have HC6 := Lib.hid (HC5.out.mods hm6 fun _ h => h.elim)
  have HD6 := Lib.hid (HD5.out.mods hm6 fun _ h => h.elim)
  have HG6 := Lib.hid (HG5.out.mods hm6 fun h => h.elim)
  have HE6 := Lib.hid (HE5.out.mods hm6 fun h => h.elim)
  have HN6 := Lib.hid (HN5.out.mods hm6 fun _ _ _ h => h)
  have Hs := Lib.hid (Sees.of_own ho)
  clear ho hb hm6 HW5 HM5 HR5 HF5 HC5 HD5 HG5 HE5 HN5
  go_wp2_with fail
  refine (same_lit [0, 1, 1, 0, 3, 0] 6 _ _ _ _ (W6.heap.size + 1) _ ((Hs.out.alloc (Nat.le_refl _) _).more (by omega)) (lit_sees _ _ _ _ rfl) rfl (by decide)).mono ?_
  rintro e W7 ⟨rfl, n7, h7⟩
  have hm7 : Mods No W6 W7 := h7 ▸ (((Mods.refl No W6).alloc _).drewN n7)
  have HM7 := Lib.hid (HM6.out.then hm7 fun _ h => h.elim)
  have HR7 := Lib.hid (HR6.out.mods hm7 fun h => h.elim)
  have HF7 := Lib.hid (HF6.out.mods hm7 fun h => h.elim)
  have HC7 := Lib.hid (HC6.out.mods hm7 fun _ h => h.elim)
  have HD7 := Lib.hid (HD6.out.mods hm7 fun _ h => h.elim)
  have HG7 := Lib.hid (HG6.out.mods hm7 fun h => h.elim)
  have HE7 := Lib.hid (HE6.out.mods hm7 fun h => h.elim)
  have HN7 := Lib.hid (HN6.out.mods hm7 fun _ _ _ h => h)
  clear h7 hm7 Hs HM6 HR6 HF6 HC6 HD6 HG6 HE6 HN6
  obtain ⟨A', c', he, _, _, hbs⟩ := nest_blks HN7.out
  injection he with he1 _ he2
  subst he1
  have C8 : Hid (Calls Tryz.prog 20 #[.agg #[.int .i64 fcEx.args, .int .i64 fcEx.regs, .slice Ag fcEx.bs.length cg], .agg #[.int .i64 0, .int .i64 1, .slice (some ⟨w.heap.size, 0, none⟩) 1 1]] W7 fun e w' => e = .returned (.bool true) ∧ Below W7.heap.size W7 w') :=
    rsame7_any W7.heap.size Ag (some ⟨w.heap.size, 0, none⟩) fcEx.bs cg 1 0 1 W7 hbs (fcEx_at HR7.out HR7.out.lt) (Nat.le_refl _) (by decide) (by decide)
  have g0 := HG7.out.cell 0; have g1 := HG7.out.cell 1; have g2 := HG7.out.cell 2
  have f0 := HF7.out.cell 0; have f1 := HF7.out.cell 1; have f2 := HF7.out.cell 2
  simp only [List.getElem?_toArray, List.getElem?_cons_zero, List.getElem?_cons_succ] at g0 g1 g2 f0 f1 f2
  clear hbs he2 HR7 HF7 HG7 HN7 hg1 hg2
  go_wp2_with fail
  refine C8.out.mono ?_
  rintro e W8 ⟨rfl, hb8⟩
  have hm8 : Mods No W7 W8 := Mods.of_below hb8
  have HM8 := Lib.hid (HM7.out.then hm8 fun _ h => h.elim)
  have HC8 := Lib.hid (HC7.out.mods hm8 fun _ h => h.elim)
  have HD8 := Lib.hid (HD7.out.mods hm8 fun _ h => h.elim)
  have HE8 := Lib.hid (HE7.out.mods hm8 fun h => h.elim)
  clear C8 hb8 hm8 g0 g1 g2 f0 f1 f2 HM7 HC7 HD7 HE7
  obtain rfl := HL.out
  go_wp2_with fail
  refine (err_any HC8.out).mono ?_
  rintro e W ⟨rfl, rfl⟩
  have HLf := Lib.hid (left_any HC8.out)
  rw [show leftS [0, 1, 1, 0, 3, 0].length 6 0 = 0 from rfl] at HLf
  go_wp2_with fail
  refine HLf.out.mono ?_
  rintro e W9 ⟨rfl, n9, h9⟩
  have HM9 : Hid (Mods (From w.heap.size) w W9) := Lib.hid (h9 ▸ HM8.out.drewN n9)
  have HD9 : Hid (Cur W9 _ p2 _ _ 14 A2 c2) := Lib.hid (h9 ▸ HD8.out.drewN n9)
  have HE9 : Hid (Row W9 _ _ _) := Lib.hid (h9 ▸ HE8.out.drewN n9)
  clear h9 HLf HM8 HC8 HD8 HE8
  have e0 := HE9.out.cell 0; have e1 := HE9.out.cell 1; have e2 := HE9.out.cell 2
  simp only [List.getElem?_toArray, List.getElem?_cons_zero, List.getElem?_cons_succ] at e0 e1 e2
  have C10 : Hid (Calls Tryz.prog 20 #[.agg #[.int .i64 0, .int .i64 0, .slice A5 0 c5], .agg #[.int .i64 0, .int .i64 0, .slice none 0 0]] W9 fun e w' => e = .returned (.bool true) ∧ Below W9.heap.size W9 w') :=
    rsame7_any W9.heap.size A5 none [] c5 0 0 0 W9 BlksAt.nil BlksAt.nil (Nat.le_refl _) (by decide) (by decide)
  go_wp2_with fail
  refine C10.out.mono ?_
  rintro e W10 ⟨rfl, hb10⟩
  have hm10 : Mods No W9 W10 := Mods.of_below hb10
  have HM10 := Lib.hid (HM9.out.then hm10 fun _ h => h.elim)
  have HD10 := Lib.hid (HD9.out.mods hm10 fun _ h => h.elim)
  clear C10 hb10 hm10 e0 e1 e2 HM9 HD9 HE9
  go_wp2_with fail
  refine (err_any HD10.out).mono ?_
  rintro e W ⟨rfl, rfl⟩
  go_wp2
  go_ret
  exact ⟨rfl, HM10.out.below (Nat.le_refl _) fun k hk => hk⟩

end Go.Proofs.YtmmdhhjpbolkhaaGreat
