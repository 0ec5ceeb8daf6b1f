/-
  The walk of FunccodeCanonical.
-/
import Derived.Test.YtmmdhhjpbolkhaaGreatFcLawT
import Derived.Test.YtmmdhhjpbolkhaaGreatFcSame
import Derived.Test.YtmmdhhjpbolkhaaGreatFcEnc
import Derived.Test.YtmmdhhjpbolkhaaGreatMNest
import Derived.Test.YtmmdhhjpbolkhaaGreatSrcRchk
import Derived.Deep.Cut
import Derived.Deep.CutRange
namespace Go.Proofs.YtmmdhhjpbolkhaaGreat
open Go.RowKit
set_option linter.unusedVariables false
set_option linter.unusedSimpArgs false

theorem readQ_true18 {i : Nat} {l e r : List Nat} (hl : l = e ++ r) (hd : l.drop i = r) (hi : i ≤ l.length) : readQ i l e = true := by
  have hn : i = e.length := by
    have h1 := congrArg List.length hd
    have h2 := congrArg List.length hl
    rw [List.length_drop] at h1
    rw [List.length_append] at h2
    omega
  have ht : l.take e.length = e := by rw [hl, List.take_left]
  have hle : e.length ≤ l.length := by rw [hl, List.length_append]; omega
  unfold readQ
  rw [ht, sameB_self, hn]
  simp [hle]

/-- What the walk carries of the second cursor and its function. -/
structure CNS (w : World) (a0 : Option Addr) (l : List Nat) (lo p : Nat) (i : Nat) (er : Int) (A : Option Addr) (c : Nat) (x : Nat) (g : Gd) (Ag : Option Addr) (cg : Nat) (vs : List Value) (base : Nat) (W : World) : Prop where
  blw : Below w.heap.size w W
  see : Sees W w.heap.size a0 (bts l)
  cur : Cur W lo p l i er A c
  box : Row W x 27 #[.int .i64 g.args, .int .i64 g.regs, .int .i64 g.slots, .slice Ag g.ms.length cg]
  nst : NestV mshp W base (.slice Ag g.ms.length cg) vs g.ms

theorem CNS.next {w W W' : World} {a0 : Option Addr} {l : List Nat} {lo p i : Nat} {er : Int} {A : Option Addr} {c x : Nat} {g : Gd} {Ag : Option Addr} {cg : Nat} {vs : List Value} {base : Nat} (h : CNS w a0 l lo p i er A c x g Ag cg vs base W) (hb : Below W.heap.size W W') : CNS w a0 l lo p i er A c x g Ag cg vs base W' :=
  ⟨h.blw.trans (hb.mono h.blw.size), h.see.below (hb.mono h.blw.size), h.cur.mods (S := No) (Mods.of_below hb) fun _ h => h.elim, h.box.below hb h.box.lt, h.nst.below hb⟩

set_option maxRecDepth 100000 in
set_option maxHeartbeats 4000000 in
theorem FunccodeCanonical_walk (a0 : Option Addr) (len0 cap0 : Nat) (z0 : List Int) (w : World) (w0 : IsRow .u8 w a0 len0 cap0 z0) :
    Calls Tryz.prog 4 #[.slice a0 len0 cap0] w fun e w' => e = .returned (.bool true) ∧ Below w.heap.size w w' := by
  obtain ⟨l, rfl, hby, hs, hlc, hcm⟩ := w0.bytes
  clear w0
  by_cases hlong : 2000 < l.length
  · go_enter Tryz.func4, Tryz.ntmps4
    go_wp2_with fail
    refine (awake18_any _).mono ?_
    rintro e W ⟨rfl, hb⟩
    go_wp2_with fail
    refine (awake18_any _).mono ?_
    rintro e W' ⟨rfl, hb'⟩
    go_wp2
    go_ret
    exact ⟨rfl, hb.trans (hb'.mono hb.size)⟩
  · have hlt : ¬ (2000 : Int) < l.length := by omega
    go_enter Tryz.func4, Tryz.ntmps4
    go_wp2_with fail
    refine (awake18_any _).mono ?_
    rintro e W1 ⟨rfl, hb⟩
    have HB1 := Lib.hid hb
    have hs1 := Lib.hid (hs.below hb)
    clear hb
    go_wp2_with fail
    refine (new_any _ l w.heap.size _ W1 hs1.out HB1.out.size hby (by omega)).mono ?_
    rintro e W2 ⟨p1, A1, c1, rfl, hp1, hc1, hb1⟩
    have HB2 := Lib.hid (HB1.out.trans (hb1.mono HB1.out.size))
    have hs2 := Lib.hid (hs1.out.below (hb1.mono HB1.out.size))
    have HC1 := Lib.hid hc1
    have HP1 := Lib.hid (show w.heap.size ≤ p1 ∧ p1 < W2.heap.size from ⟨by have := HB1.out.size; omega, hc1.row.lt⟩)
    clear hp1 hc1 hb1 HB1 hs1
    go_wp2_with fail
    refine (new_any _ l w.heap.size _ W2 hs2.out HB2.out.size hby (by omega)).mono ?_
    rintro e W3 ⟨p2, A2, c2, rfl, hp2, hc2, hb2⟩
    have HB3 := Lib.hid (HB2.out.trans (hb2.mono HB2.out.size))
    have hs3 := Lib.hid (hs2.out.below (hb2.mono HB2.out.size))
    have D1 := Lib.hid (HC1.out.mods (S := No) (Mods.of_below hb2) fun _ h => h.elim)
    have HC2 := Lib.hid hc2
    have HP2 := Lib.hid (show W2.heap.size ≤ p2 ∧ p2 < W3.heap.size from ⟨hp2, hc2.row.lt⟩)
    clear hp2 hc2 hb2 HB2 hs2 HC1
    obtain ⟨⟨f, t⟩, hF⟩ : ∃ y, funcE ⟨l.drop 0, 0⟩ = y := ⟨_, rfl⟩
    obtain ⟨⟨g, u⟩, hG⟩ : ∃ y, mfuncE ⟨l.drop 0, 0⟩ = y := ⟨_, rfl⟩
    have C1 := Lib.hid (pfunc_any D1.out hF)
    have EF := Lib.hid hF
    have EG := Lib.hid hG
    clear hF hG
    go_wp2_with fail
    refine C1.out.mono ?_
    rintro e W4 ⟨v, vs, rfl, hn, hm, i1, hc, hd⟩
    obtain ⟨Af, cf, rfl, hf1, hf2, _⟩ := nest_blks hn
    have ha := (Mods.refl No W4).alloc (.cells #[.int .i64 f.args, .int .i64 f.regs, .slice Af f.bs.length cf] 24)
    have hbm := hm.below HB3.out.size (fun k hk => by unfold Is at hk; have := HP1.out; omega)
    have HB4 := Lib.hid ((HB3.out.trans hbm).alloc (Nat.le_trans HB3.out.size hm.size) (.cells #[.int .i64 f.args, .int .i64 f.regs, .slice Af f.bs.length cf] 24))
    have hs4 := Lib.hid ((hs3.out.below hbm).alloc (Nat.le_trans HB3.out.size hm.size) (.cells #[.int .i64 f.args, .int .i64 f.regs, .slice Af f.bs.length cf] 24))
    have F1 := Lib.hid (hc.mods ha fun _ h => h.elim)
    have HN1 := Lib.hid (hn.mods ha fun _ _ _ h => h)
    have HX1 := Lib.hid (Row.new W4 24 #[.int .i64 f.args, .int .i64 f.regs, .slice Af f.bs.length cf])
    have E2 := Lib.hid ((HC2.out.mods hm fun k hk => by unfold Is at hk; have := HP1.out; omega).mods ha fun _ h => h.elim)
    have HD1 := Lib.hid hd
    have HQ := Lib.hid hm.size
    clear ha hbm hn hm hc hd C1 D1 HC2 HB3 hs3
    go_upto_region 8 with fail
    generalize (W4.alloc (.cells #[.int .i64 f.args, .int .i64 f.regs, .slice Af f.bs.length cf] 24)) = V4 at *
    have C2 := Lib.hid (pmfunc_any E2.out EG.out)
    go_wp2_with fail
    refine C2.out.mono ?_
    rintro e W5 ⟨v, vg, rfl, hn, hm, i2, hc, hd⟩
    obtain ⟨Ag, cg, hv, _, _⟩ := ownS_slice hn.outer
    rw [hn.len] at hv
    subst hv
    have ha := (Mods.refl No W5).alloc (.cells #[.int .i64 g.args, .int .i64 g.regs, .int .i64 g.slots, .slice Ag g.ms.length cg] 27)
    have hbm := hm.below HB4.out.size (fun k hk => by unfold Is at hk; have := HP1.out; have := HP2.out; omega)
    have HX5 : Hid (CNS w a0 l W2.heap.size p2 i2 u.err A2 c2 W5.heap.size g Ag cg vg V4.heap.size (W5.alloc (.cells #[.int .i64 g.args, .int .i64 g.regs, .int .i64 g.slots, .slice Ag g.ms.length cg] 27))) :=
      ⟨(HB4.out.trans hbm).alloc (Nat.le_trans HB4.out.size hm.size) _, (hs4.out.below hbm).alloc (Nat.le_trans HB4.out.size hm.size) _, hc.mods ha fun _ h => h.elim, Row.new W5 _ _, hn.mods ha fun _ _ _ h => h⟩
    have F5 := Lib.hid ((F1.out.mods hm fun k hk => by unfold Is at hk; have := HP1.out; have := HP2.out; omega).mods ha fun _ h => h.elim)
    have HN5 := Lib.hid ((HN1.out.mods hm fun k h1 _ h2 => by unfold Is at h2; have := HP2.out; omega).mods ha fun _ _ _ h => h)
    have HY5 := Lib.hid ((HX1.out.mods hm fun h => by unfold Is at h; have := HP2.out; have := HQ.out; omega).mods ha fun h => h.elim)
    have HD2 := Lib.hid hd
    clear ha hbm hn hm hc hd C2 E2 F1 HN1 HX1 HB4 hs4
    go_upto_region 9 with fail
    generalize (W5.alloc (.cells #[.int .i64 g.args, .int .i64 g.regs, .int .i64 g.slots, .slice Ag g.ms.length cg] 27)) = V5 at *
    go_cut [44] from 11 (fun s44 wx => s44 = .bool false ∧ Hid (CNS w a0 l W2.heap.size p2 i2 u.err A2 c2 W5.heap.size g Ag cg vg V4.heap.size wx))
    case first =>
      by_cases he : t.err = 0
      · have d1 : (t.err == 0) = true := by simp [he]
        have hok := funcE_ok (s := ⟨l.drop 0, 0⟩) (by rw [List.drop_zero]; exact hby) (by rw [EF.out]; exact he)
        rw [EF.out] at hok
        obtain ⟨_, k1, k2, k3, _, _, _⟩ := hok
        have k4 : l = encF' f ++ t.rest := k3
        have hvf : VF f := VF.of k1 k2
        have hsm := encF_small (f := f) (n := 2000) (by have := congrArg List.length k4; rw [List.length_append] at this; omega)
        have HRQ : Hid (readQ i1 l (encF' f) = true) := readQ_true18 k4 (HD1.out he) F5.out.le
        obtain ⟨A', c', hv, _, _, hbs⟩ := nest_blks HN5.out
        injection hv with hv1 _ hv2
        subst hv1
        have HBS := Lib.hid hbs
        have C3 := Lib.hid (rcheck_any V5.heap.size Af f.bs cf f.args f.regs V5 hbs (Nat.le_refl _) (by omega) (by omega))
        have k1' : eF f.args f.regs f.bs = 0 := k1
        rw [k1'] at C3
        have hel : (encF' f).length ≤ 2000 := by have := congrArg List.length k4; rw [List.length_append] at this; omega
        have C4 := Lib.hid fun W (hb : BlksAt W V5.heap.size Af f.bs) (hsz : V5.heap.size ≤ W.heap.size) => rputf18_any V5.heap.size Af f.bs cf f.args f.regs W hb hsz ⟨hvf.a.1, by have := hvf.a.2; omega⟩ ⟨hvf.r.1, by have := hvf.r.2; omega⟩ (by omega) (fun x hx => (hvf.v x hx).pb) (Nat.le_trans hel (by decide))
        clear k1 k2 k3 k4 k1' hvf hsm hbs hv2 he
        have b0 := HY5.out.cell 0; have b1 := HY5.out.cell 1; have b2 := HY5.out.cell 2
        simp only [List.getElem?_toArray, List.getElem?_cons_zero, List.getElem?_cons_succ] at b0 b1 b2
        go_wp2_with fail
        refine (err_any F5.out).mono ?_
        rintro e W ⟨rfl, rfl⟩
        go_wp2_with fail
        refine C3.out.mono ?_
        rintro e W6 ⟨rfl, hb⟩
        have HR6 := HY5.out.below hb HY5.out.lt
        have HB6 := Lib.hid hb
        clear b0 b1 b2 hb C3
        have b0 := HR6.cell 0; have b1 := HR6.cell 1; have b2 := HR6.cell 2
        simp only [List.getElem?_toArray, List.getElem?_cons_zero, List.getElem?_cons_succ] at b0 b1 b2
        have C5 := Lib.hid (C4.out W6 (HBS.out.below HB6.out) HB6.out.size)
        clear HR6 C4
        go_wp2_with fail
        refine C5.out.mono ?_
        rintro e W7 ⟨Ae, ce, rfl, ho, hb⟩
        have HB7 := Lib.hid (HB6.out.trans (hb.mono HB6.out.size))
        have HX7 := Lib.hid (HX5.out.next HB7.out)
        have hse := Sees.of_own ho
        have hsl := HX7.out.see.more HX7.out.blw.size
        have C6 := Lib.hid (read18_any (F5.out.mods (S := No) (Mods.of_below HB7.out) fun _ h => h.elim) hsl hse (c2 := ce) hlc hcm (by omega) (Nat.le_trans hel (by decide)))
        rw [HRQ.out] at C6
        clear ho hb hse hsl C5 b0 b1 b2 hel
        go_wp2_with fail
        refine C6.out.mono ?_
        rintro e W8 ⟨rfl, n8, rfl⟩
        go_wp2_with fail
        go_meet
        case rel => exact ⟨rfl, HX7.out.next (let b := Below.refl W7.heap.size W7; ⟨b.os, b.tape, b.output, b.size, b.block⟩)⟩
      · have d1 : (t.err == 0) = false := by simp [he]
        go_wp2_with fail
        refine (err_any F5.out).mono ?_
        rintro e W ⟨rfl, rfl⟩
        go_wp2_with fail
        go_meet
        case rel => exact ⟨rfl, HX5.out⟩
    case rest =>
      obtain ⟨hs44, HX6⟩ := hcut
      subst hs44
      clear HX5 F5 HN5 HY5 HD1 EF
      generalize wc = V6 at *
      by_cases he : u.err = 0
      · have d1 : (u.err != 0) = false := by simp [he]
        have hok := mfuncE_ok (s := ⟨l.drop 0, 0⟩) (by rw [List.drop_zero]; exact hby) (by rw [EG.out]; exact he)
        rw [EG.out] at hok
        obtain ⟨_, k1, k2, k3, _, _, _, _⟩ := hok
        have k4 : l = encG g ++ u.rest := k3
        have hvf : VG g := VG.of k1 k2
        have hsm := encG_small (g := g) (n := 2000) (by have := congrArg List.length k4; rw [List.length_append] at this; omega)
        have HRQ : Hid (readQ i2 l (encG g) = true) := readQ_true18 k4 (HD2.out he) HX6.out.cur.le
        obtain ⟨A', c', hv, _, _, hbs⟩ := nest_mblks HX6.out.nst (eMF_ok18 k1)
        injection hv with hv1 _ hv2
        subst hv1
        have HBS := Lib.hid hbs
        have C3 := Lib.hid (rmcheck_any V6.heap.size Ag g.ms cg g.args g.regs g.slots V6 hbs (Nat.le_refl _) (by omega) (by omega))
        have k1' : eMF g.args g.regs g.slots g.ms = 0 := k1
        rw [k1'] at C3
        have hel : (encG g).length ≤ 2000 := by have := congrArg List.length k4; rw [List.length_append] at this; omega
        have C4 := Lib.hid fun W (hb : MBlksAt W V6.heap.size Ag g.ms) (hsz : V6.heap.size ≤ W.heap.size) => rputmf18_any V6.heap.size Ag g.ms cg g.args g.regs g.slots W hb hsz ⟨hvf.a.1, by have := hvf.a.2; omega⟩ ⟨hvf.r.1, by have := hvf.r.2; omega⟩ ⟨hvf.s.1, by have := hvf.s.2; omega⟩ (by omega) (fun x hx => (hvf.v x hx).pb) (Nat.le_trans hel (by decide))
        clear k1 k2 k3 k4 k1' hvf hsm hbs hv2 he
        have b0 := HX6.out.box.cell 0; have b1 := HX6.out.box.cell 1; have b2 := HX6.out.box.cell 2; have b3 := HX6.out.box.cell 3
        simp only [List.getElem?_toArray, List.getElem?_cons_zero, List.getElem?_cons_succ] at b0 b1 b2 b3
        go_wp2_with fail
        refine (err_any HX6.out.cur).mono ?_
        rintro e W ⟨rfl, rfl⟩
        go_wp2_with fail
        refine C3.out.mono ?_
        rintro e W6 ⟨rfl, hb⟩
        have HB6 := Lib.hid hb
        have HR6 := (HX6.out.next hb).box
        clear b0 b1 b2 b3 hb C3
        have b0 := HR6.cell 0; have b1 := HR6.cell 1; have b2 := HR6.cell 2; have b3 := HR6.cell 3
        simp only [List.getElem?_toArray, List.getElem?_cons_zero, List.getElem?_cons_succ] at b0 b1 b2 b3
        have C5 := Lib.hid (C4.out W6 (HBS.out.below HB6.out) HB6.out.size)
        clear HR6 C4
        go_wp2_with fail
        refine C5.out.mono ?_
        rintro e W7 ⟨Ae, ce, rfl, ho, hb⟩
        have HX7 := Lib.hid (HX6.out.next (HB6.out.trans (hb.mono HB6.out.size)))
        have hse := Sees.of_own ho
        have hsl := HX7.out.see.more HX7.out.blw.size
        have C6 := Lib.hid (read18_any HX7.out.cur hsl hse (c2 := ce) hlc hcm (by omega) (Nat.le_trans hel (by decide)))
        rw [HRQ.out] at C6
        clear ho hb hse hsl C5 b0 b1 b2 b3 hel
        go_wp2_with fail
        refine C6.out.mono ?_
        rintro e W8 ⟨rfl, n8, rfl⟩
        go_wp2
        go_ret
        exact ⟨rfl, (HX7.out.next (let b := Below.refl W7.heap.size W7; ⟨b.os, b.tape, b.output, b.size, b.block⟩) : CNS w a0 l W2.heap.size p2 i2 u.err A2 c2 W5.heap.size g Ag cg vg V4.heap.size (W7.drewN n8)).blw⟩
      · have d1 : (u.err != 0) = true := by simp [he]
        go_wp2_with fail
        refine (err_any HX6.out.cur).mono ?_
        rintro e W ⟨rfl, rfl⟩
        go_wp2
        go_ret
        exact ⟨rfl, HX6.out.blw⟩

end Go.Proofs.YtmmdhhjpbolkhaaGreat
