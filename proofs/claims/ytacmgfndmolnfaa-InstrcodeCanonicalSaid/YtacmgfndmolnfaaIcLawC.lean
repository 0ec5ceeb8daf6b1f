/-
  The walk of InstrcodeCanonical (made by wip/lab/geniclawc.py).
-/
import Derived.Test.YtacmgfndmolnfaaIcLawT
import Derived.Test.YtacmgfndmolnfaaIcMach
import Derived.Test.YtacmgfndmolnfaaIcTerm
import Derived.Test.YtacmgfndmolnfaaIcSame
import Derived.Test.YtacmgfndmolnfaaSrcRef
import Derived.Test.YtacmgfndmolnfaaSrcRterm
import Derived.Deep.Cut
import Derived.Deep.CutRange
namespace Go.Proofs.Ytacmgfndmolnfaa
open Go.RowKit
set_option linter.unusedVariables false
set_option linter.unusedSimpArgs false

theorem readE_bad {op r n : Int} {s : Ip} (h : (readE op r n s).2.err ≠ 0) : (readE op r n s).1 = Mi0 := by
  unfold readE at *
  by_cases h0 : (zE op r n s).err ≠ 0
  · rw [if_pos h0]
  · rw [if_neg h0] at h
    exact absurd h h0
theorem instrE_bad {r : Int} {s t : Ip} {m : Mi} (e : instrE r s = (m, t)) (h : t.err ≠ 0) : m = Mi0 := by
  have h1 : m = (instrE r s).1 := by rw [e]
  have h2 : t = (instrE r s).2 := by rw [e]
  rw [h1]
  rw [h2] at h
  unfold instrE at *
  split
  · rfl
  · rename_i h0
    rw [if_neg h0] at h
    exact readE_bad h
theorem machE_bad {r n : Int} {s t : Ip} {m : Mi} (e : machE r n s = (m, t)) (h : t.err ≠ 0) : m = Mi0 := by
  have h1 : m = (machE r n s).1 := by rw [e]
  have h2 : t = (machE r n s).2 := by rw [e]
  rw [h1]
  rw [h2] at h
  unfold machE at *
  split
  · rfl
  · rename_i h0
    rw [if_neg h0] at h
    exact readE_bad h
theorem termE_bad {r n : Int} {s t : Ip} {m : Tm} (e : termE r n s = (m, t)) (h : t.err ≠ 0) : m = Tm0 := by
  have h1 : m = (termE r n s).1 := by rw [e]
  have h2 : t = (termE r n s).2 := by rw [e]
  rw [h1]
  rw [h2] at h
  unfold termE at *
  by_cases h0 : (teE r n s).2.err ≠ 0
  · rw [if_pos h0]
  · rw [if_neg h0] at h
    exact absurd h h0
/-- A cursor that has read just the encoding. -/
theorem readQ_true {i : Nat} {l e r : List Nat} (hl : l = e ++ r) (hd : l.drop i = r) (hi : i ≤ l.length) : readQ i l e = true := by
  have hn : i = e.length := by
    have h1 := congrArg List.length hd
    have h2 := congrArg List.length hl
    rw [List.length_drop] at h1
    rw [List.length_append] at h2
    omega
  have ht : l.take e.length = e := by rw [hl, List.take_left]
  have hle : e.length ≤ l.length := by rw [hl, List.length_append]; omega
  unfold readQ
  rw [ht, sameB_self, hn]
  simp [hle]
theorem encT_len (t : Tm) : (encT t).length ≤ 31 := by
  unfold encT
  have h1 := encO_len (b := t.kind != 1) (v := t.a)
  have h2 := encO_len (b := t.kind != 3) (v := t.to)
  have h3 := encO_len (b := t.kind == 2) (v := t.el)
  simp only [List.length_cons, List.length_append]
  omega

set_option maxRecDepth 100000 in
set_option maxHeartbeats 8000000 in
theorem InstrcodeCanonical_walk (a0 : Option Addr) (len0 cap0 : Nat) (z0 : List Int) (a1 a2 a3 : Int) (w : World) (w0 : IsRow .u8 w a0 len0 cap0 z0) (w1 : (Lit.int .u16 a1).wf = true) (w2 : (Lit.int .u16 a2).wf = true) (w3 : (Lit.int .u16 a3).wf = true) :
    Calls Try.prog 5 #[.slice a0 len0 cap0, .int .u16 a1, .int .u16 a2, .int .u16 a3] w fun e w' => e = .returned (.bool true) ∧ Below w.heap.size w w' := by
  obtain ⟨r0, r1⟩ := u16_of17 w1
  obtain ⟨s0, s1⟩ := u16_of17 w2
  obtain ⟨k0, k1⟩ := u16_of17 w3
  obtain ⟨l, rfl, hby, hs, hlc, hcm⟩ := w0.bytes
  clear w0 w1 w2 w3
  by_cases hlong : 1000 < l.length
  · go_enter Try.func5, Try.ntmps5
    go_wp2_with fail
    refine (awake17_any _).mono ?_
    rintro e W ⟨rfl, hb⟩
    go_wp2_with fail
    refine (awake17_any _).mono ?_
    rintro e W' ⟨rfl, hb'⟩
    go_wp2
    go_ret
    exact ⟨rfl, hb.trans (hb'.mono hb.size)⟩
  · have hlt : ¬ (1000 : Int) < l.length := by omega
    go_enter Try.func5, Try.ntmps5
    go_wp2_with fail
    refine (awake17_any _).mono ?_
    rintro e W1 ⟨rfl, hb⟩
    have HB1 := Lib.hid hb
    have hs1 := Lib.hid (hs.below hb)
    clear hb
    go_wp2_with fail
    refine (new_any _ l w.heap.size _ W1 hs1.out HB1.out.size hby (by omega)).mono ?_
    rintro e W2 ⟨p1, A1, c1, rfl, hp1, hc1, hb1⟩
    have HB2 := Lib.hid (HB1.out.trans (hb1.mono HB1.out.size))
    have hs2 := Lib.hid (hs1.out.below (hb1.mono HB1.out.size))
    have HC1 := Lib.hid hc1
    have HP1 := Lib.hid (show w.heap.size ≤ p1 ∧ p1 < W2.heap.size from ⟨by have := HB1.out.size; omega, hc1.row.lt⟩)
    clear hp1 hc1 hb1 HB1 hs1
    go_wp2_with fail
    refine (new_any _ l w.heap.size _ W2 hs2.out HB2.out.size hby (by omega)).mono ?_
    rintro e W3 ⟨p2, A2, c2, rfl, hp2, hc2, hb2⟩
    have HB3 := Lib.hid (HB2.out.trans (hb2.mono HB2.out.size))
    have hs3 := Lib.hid (hs2.out.below (hb2.mono HB2.out.size))
    have D1 := Lib.hid (HC1.out.mods (S := No) (Mods.of_below hb2) fun _ h => h.elim)
    have HC2 := Lib.hid hc2
    have HP2 := Lib.hid (show p1 < p2 ∧ p2 < W3.heap.size from ⟨by have := HP1.out; omega, hc2.row.lt⟩)
    clear hp2 hc2 hb2 HB2 hs2 HC1
    go_wp2_with fail
    refine (new_any _ l w.heap.size _ W3 hs3.out HB3.out.size hby (by omega)).mono ?_
    rintro e W4 ⟨p3, A3, c3, rfl, hp3, hc3, hb3⟩
    have HB := Lib.hid (HB3.out.trans (hb3.mono HB3.out.size))
    have HS := Lib.hid (hs3.out.below (hb3.mono HB3.out.size))
    have E1 := Lib.hid (D1.out.mods (S := No) (Mods.of_below hb3) fun _ h => h.elim)
    have E2 := Lib.hid (HC2.out.mods (S := No) (Mods.of_below hb3) fun _ h => h.elim)
    have E3 := Lib.hid hc3
    have HP3 := Lib.hid (show p2 < p3 ∧ p3 < W4.heap.size from ⟨by have := HP2.out; omega, hc3.row.lt⟩)
    clear hp3 hc3 hb3 HB3 hs3 HC2 D1 hs
    obtain ⟨m1, t1, e1⟩ : ∃ m t, instrE a1 ⟨l, 0⟩ = (m, t) := ⟨_, _, rfl⟩
    obtain ⟨m2, t2, e2⟩ : ∃ m t, machE a1 a2 ⟨l, 0⟩ = (m, t) := ⟨_, _, rfl⟩
    obtain ⟨m3, t3, e3⟩ : ∃ m t, termE a1 a3 ⟨l, 0⟩ = (m, t) := ⟨_, _, rfl⟩
    have HE1 := Lib.hid e1
    have HE2 := Lib.hid e2
    have HE3 := Lib.hid e3
    clear e1 e2 e3
    go_wp2_with fail
    refine (picinstr_any E1.out a1 ⟨r0, r1⟩ (m := m1) (t := t1) (by rw [List.drop_zero]; exact HE1.out)).mono ?_
    rintro e Wr ⟨rfl, hm, i1, hc, hd⟩
    go_upto_region 9 with fail
    have hma := hm.alloc (.cells #[.int .i64 m1.op, .int .i64 m1.d, .int .i64 m1.a, .int .i64 m1.b, .int .i64 m1.imm] 30)
    have hbx := (hm.below (B := w.heap.size) HB.out.size (fun k hk => by unfold Is at hk; have h1 := HP1.out; have h2 := HP2.out; have h3 := HP3.out; omega)).alloc (Nat.le_trans HB.out.size hm.size) (.cells #[.int .i64 m1.op, .int .i64 m1.d, .int .i64 m1.a, .int .i64 m1.b, .int .i64 m1.imm] 30)
    have HBx := Lib.hid (HB.out.trans hbx)
    have F1 := Lib.hid (hc.alloc (.cells #[.int .i64 m1.op, .int .i64 m1.d, .int .i64 m1.a, .int .i64 m1.b, .int .i64 m1.imm] 30))
    have F2 := Lib.hid (E2.out.mods hma (fun k hk => by unfold Is at hk; have h1 := HP1.out; have h2 := HP2.out; have h3 := HP3.out; omega))
    have F3 := Lib.hid (E3.out.mods hma (fun k hk => by unfold Is at hk; have h1 := HP1.out; have h2 := HP2.out; have h3 := HP3.out; omega))
    have HSx := Lib.hid (HS.out.below hbx)
    have HR := Lib.hid (Row.new Wr 30 #[.int .i64 m1.op, .int .i64 m1.d, .int .i64 m1.a, .int .i64 m1.b, .int .i64 m1.imm])
    have HD := Lib.hid hd
    clear hm hma hbx hc hd HB HS E1 E2 E3
    generalize (Wr.alloc (.cells #[.int .i64 m1.op, .int .i64 m1.d, .int .i64 m1.a, .int .i64 m1.b, .int .i64 m1.imm] 30)) = Wb at *
    generalize Wr.heap.size = bx at *
    go_cut [70] from 43 (fun s9 wx => s9 = .bool false ∧ Hid (Below Wb.heap.size Wb wx))
    case first =>
      by_cases he : t1.err = 0
      · obtain ⟨v1, v2, v3, v4, v5⟩ := instrE_ok (regs := a1) hby (by rw [HE1.out]; exact he)
        rw [HE1.out] at v1 v2 v3 v4 v5
        dsimp only at v1 v2 v3 v4 v5
        obtain ⟨⟨o1, o2⟩, hok⟩ := (eI_iff (n := 0) v4 v5).1 v1
        obtain ⟨g1, g2, g3, g4, g5⟩ := hok.rng r1 (by decide)
        have C1 := Lib.hid (rinstr_any m1.ins a1 Wb)
        rw [v1] at C1
        have C2 := Lib.hid fun W => rputi17_any (w := W) (m := m1) v4 v5 ⟨by omega, by omega⟩ v2 (fun _ => ⟨g1.1, by omega⟩) (fun _ => ⟨g2.1, by omega⟩) (fun _ => ⟨g3.1, by omega⟩)
        have HL := Lib.hid (encM_len m1)
        have HQ := Lib.hid (readQ_true v3 (HD.out he) F1.out.le)
        clear hok o1 o2 g1 g2 g3 g4 g5 v1 v2 v3 v4 v5
        obtain ⟨en, hen⟩ : ∃ z, z = encM m1 := ⟨_, rfl⟩
        rw [← hen] at C2 HL HQ
        have hel := HL.out.2
        clear hen
        have CE1 : Hid (∀ W, Below Wb.heap.size Wb W → Calls Try.prog 28 #[.pointer (some ⟨p1, 0, none⟩)] W fun e w' => e = .returned (.int .i64 0) ∧ W = w') := fun W hb => by
          have := err_any (F1.out.mods (S := No) (Mods.of_below hb) fun _ h => h.elim)
          rw [he] at this
          exact this
        clear he
        go_wp2_with fail
        refine (CE1.out _ (Below.refl _ _)).mono ?_
        rintro e Wc ⟨rfl, rfl⟩
        have b0 := HR.out.cell 0; have b1 := HR.out.cell 1; have b2 := HR.out.cell 2; have b3 := HR.out.cell 3; have b4 := HR.out.cell 4
        simp only [List.getElem?_toArray, List.getElem?_cons_zero, List.getElem?_cons_succ] at b0 b1 b2 b3 b4
        go_wp2_with fail
        refine C1.out.mono ?_
        rintro e Wc ⟨rfl, hb⟩
        have HBc := Lib.hid hb
        have HRc := Lib.hid (HR.out.below hb HR.out.lt)
        clear b0 b1 b2 b3 b4 C1 hb
        have b0 := HRc.out.cell 0; have b1 := HRc.out.cell 1; have b2 := HRc.out.cell 2; have b3 := HRc.out.cell 3; have b4 := HRc.out.cell 4
        simp only [List.getElem?_toArray, List.getElem?_cons_zero, List.getElem?_cons_succ] at b0 b1 b2 b3 b4
        go_wp2_with fail
        refine (C2.out _).mono ?_
        rintro e Wd ⟨Ae, ce, rfl, ho, hb⟩
        have HBd := Lib.hid (HBc.out.trans (hb.mono HBc.out.size))
        have hse := Sees.of_own ho
        have hsl := (HSx.out.below (HBd.out.mono HBx.out.size)).more (Nat.le_trans HBx.out.size HBd.out.size)
        have C3 := Lib.hid (read17_any (F1.out.mods (S := No) (Mods.of_below HBd.out) fun _ h => h.elim) hsl hse (c2 := ce) hlc hcm (by omega) (by omega))
        rw [HQ.out] at C3
        clear b0 b1 b2 b3 b4 C2 hb ho hse hsl
        go_wp2_with fail
        refine C3.out.mono ?_
        rintro e We ⟨rfl, n9, h9⟩
        have HBe := Lib.hid (h9 ▸ blw_drewN HBd.out n9 : Below Wb.heap.size Wb We)
        clear h9 C3
        go_wp2_with fail
        refine (CE1.out _ HBe.out).mono ?_
        rintro e Wf ⟨rfl, rfl⟩
        go_wp2_with fail
        go_meet
        case rel => exact ⟨rfl, HBe.out⟩
      · have hz := instrE_bad HE1.out he
        subst hz
        have CE1 := Lib.hid (err_any F1.out)
        have d0 : (t1.err == 0) = false := by simpa using he
        have d1 : (t1.err != 0) = true := by simpa using he
        have b0 := HR.out.cell 0; have b1 := HR.out.cell 1; have b2 := HR.out.cell 2; have b3 := HR.out.cell 3; have b4 := HR.out.cell 4
        simp only [List.getElem?_toArray, List.getElem?_cons_zero, List.getElem?_cons_succ] at b0 b1 b2 b3 b4
        clear he
        go_wp2_with fail
        refine CE1.out.mono ?_
        rintro e Wc ⟨rfl, rfl⟩
        go_wp2_with fail
        refine CE1.out.mono ?_
        rintro e Wc ⟨rfl, rfl⟩
        simp only [Mi0] at *
        go_wp2_with fail
        go_meet
        case rel => exact ⟨rfl, Below.refl _ _⟩
    case rest =>
      obtain ⟨rfl, hcb⟩ := hcut
      have HB := Lib.hid (HBx.out.trans (hcb.out.mono HBx.out.size))
      have E2 := Lib.hid (F2.out.mods (S := No) (Mods.of_below hcb.out) fun _ h => h.elim)
      have E3 := Lib.hid (F3.out.mods (S := No) (Mods.of_below hcb.out) fun _ h => h.elim)
      have HS := Lib.hid (HSx.out.below (hcb.out.mono HBx.out.size))
      clear hcb HBx HSx F1 F2 F3 HR HD
      go_wp2_with fail
      refine (picmach_any E2.out a1 a2 ⟨r0, r1⟩ ⟨s0, s1⟩ (m := m2) (t := t2) (by rw [List.drop_zero]; exact HE2.out)).mono ?_
      rintro e Wr ⟨rfl, hm, i2, hc, hd⟩
      go_upto_region 12 with fail
      have hma := hm.alloc (.cells #[.int .i64 m2.op, .int .i64 m2.d, .int .i64 m2.a, .int .i64 m2.b, .int .i64 m2.imm, .int .i64 m2.dst, .int .i64 m2.src] 34)
      have hbx := (hm.below (B := w.heap.size) HB.out.size (fun k hk => by unfold Is at hk; have h1 := HP1.out; have h2 := HP2.out; have h3 := HP3.out; omega)).alloc (Nat.le_trans HB.out.size hm.size) (.cells #[.int .i64 m2.op, .int .i64 m2.d, .int .i64 m2.a, .int .i64 m2.b, .int .i64 m2.imm, .int .i64 m2.dst, .int .i64 m2.src] 34)
      have HBx := Lib.hid (HB.out.trans hbx)
      have F2 := Lib.hid (hc.alloc (.cells #[.int .i64 m2.op, .int .i64 m2.d, .int .i64 m2.a, .int .i64 m2.b, .int .i64 m2.imm, .int .i64 m2.dst, .int .i64 m2.src] 34))
      have F3 := Lib.hid (E3.out.mods hma (fun k hk => by unfold Is at hk; have h1 := HP1.out; have h2 := HP2.out; have h3 := HP3.out; omega))
      have HSx := Lib.hid (HS.out.below hbx)
      have HR := Lib.hid (Row.new Wr 34 #[.int .i64 m2.op, .int .i64 m2.d, .int .i64 m2.a, .int .i64 m2.b, .int .i64 m2.imm, .int .i64 m2.dst, .int .i64 m2.src])
      have HD := Lib.hid hd
      clear hm hma hbx hc hd HB HS E2 E3
      generalize (Wr.alloc (.cells #[.int .i64 m2.op, .int .i64 m2.d, .int .i64 m2.a, .int .i64 m2.b, .int .i64 m2.imm, .int .i64 m2.dst, .int .i64 m2.src] 34)) = Wb at *
      generalize Wr.heap.size = bx at *
      go_cut [106] from 77 (fun s9 wx => s9 = .bool false ∧ Hid (Below Wb.heap.size Wb wx))
      case first =>
        by_cases he : t2.err = 0
        · obtain ⟨v1, v2, v3⟩ := machE_ok (regs := a1) (n := a2) hby (by rw [HE2.out]; exact he)
          rw [HE2.out] at v1 v2 v3
          dsimp only at v1 v2 v3
          obtain ⟨⟨o1, o2, o3⟩, hok⟩ := eM_iff.1 v1
          obtain ⟨g1, g2, g3, g4, g5⟩ := hok.rng r1 s1
          have C1 := Lib.hid (rminstr_any m2 a1 a2 Wb ⟨⟨by omega, by omega⟩, ⟨by omega, by omega⟩⟩)
          rw [v1] at C1
          have C2 := Lib.hid fun W => rputm17_any (w := W) (m := m2) ⟨by omega, by omega⟩ v2 (fun _ => ⟨g1.1, by omega⟩) (fun _ => ⟨g2.1, by omega⟩) (fun _ => ⟨g3.1, by omega⟩) (fun _ => ⟨g4.1, by omega⟩) (fun _ => ⟨g5.1, by omega⟩)
          have HL := Lib.hid (encM_len m2)
          have HQ := Lib.hid (readQ_true v3 (HD.out he) F2.out.le)
          clear hok o1 o2 o3 g1 g2 g3 g4 g5 v1 v2 v3
          obtain ⟨en, hen⟩ : ∃ z, z = encM m2 := ⟨_, rfl⟩
          rw [← hen] at C2 HL HQ
          have hel := HL.out.2
          clear hen
          have CE1 : Hid (∀ W, Below Wb.heap.size Wb W → Calls Try.prog 28 #[.pointer (some ⟨p2, 0, none⟩)] W fun e w' => e = .returned (.int .i64 0) ∧ W = w') := fun W hb => by
            have := err_any (F2.out.mods (S := No) (Mods.of_below hb) fun _ h => h.elim)
            rw [he] at this
            exact this
          clear he
          go_wp2_with fail
          refine (CE1.out _ (Below.refl _ _)).mono ?_
          rintro e Wc ⟨rfl, rfl⟩
          have b0 := HR.out.cell 0; have b1 := HR.out.cell 1; have b2 := HR.out.cell 2; have b3 := HR.out.cell 3; have b4 := HR.out.cell 4; have b5 := HR.out.cell 5; have b6 := HR.out.cell 6
          simp only [List.getElem?_toArray, List.getElem?_cons_zero, List.getElem?_cons_succ] at b0 b1 b2 b3 b4 b5 b6
          go_wp2_with fail
          refine C1.out.mono ?_
          rintro e Wc ⟨rfl, hb⟩
          have HBc := Lib.hid hb
          have HRc := Lib.hid (HR.out.below hb HR.out.lt)
          clear b0 b1 b2 b3 b4 b5 b6 C1 hb
          have b0 := HRc.out.cell 0; have b1 := HRc.out.cell 1; have b2 := HRc.out.cell 2; have b3 := HRc.out.cell 3; have b4 := HRc.out.cell 4; have b5 := HRc.out.cell 5; have b6 := HRc.out.cell 6
          simp only [List.getElem?_toArray, List.getElem?_cons_zero, List.getElem?_cons_succ] at b0 b1 b2 b3 b4 b5 b6
          go_wp2_with fail
          refine (C2.out _).mono ?_
          rintro e Wd ⟨Ae, ce, rfl, ho, hb⟩
          have HBd := Lib.hid (HBc.out.trans (hb.mono HBc.out.size))
          have hse := Sees.of_own ho
          have hsl := (HSx.out.below (HBd.out.mono HBx.out.size)).more (Nat.le_trans HBx.out.size HBd.out.size)
          have C3 := Lib.hid (read17_any (F2.out.mods (S := No) (Mods.of_below HBd.out) fun _ h => h.elim) hsl hse (c2 := ce) hlc hcm (by omega) (by omega))
          rw [HQ.out] at C3
          clear b0 b1 b2 b3 b4 b5 b6 C2 hb ho hse hsl
          go_wp2_with fail
          refine C3.out.mono ?_
          rintro e We ⟨rfl, n9, h9⟩
          have HBe := Lib.hid (h9 ▸ blw_drewN HBd.out n9 : Below Wb.heap.size Wb We)
          clear h9 C3
          go_wp2_with fail
          refine (CE1.out _ HBe.out).mono ?_
          rintro e Wf ⟨rfl, rfl⟩
          go_wp2_with fail
          go_meet
          case rel => exact ⟨rfl, HBe.out⟩
        · have hz := machE_bad HE2.out he
          subst hz
          have CE1 := Lib.hid (err_any F2.out)
          have d0 : (t2.err == 0) = false := by simpa using he
          have d1 : (t2.err != 0) = true := by simpa using he
          have b0 := HR.out.cell 0; have b1 := HR.out.cell 1; have b2 := HR.out.cell 2; have b3 := HR.out.cell 3; have b4 := HR.out.cell 4; have b5 := HR.out.cell 5; have b6 := HR.out.cell 6
          simp only [List.getElem?_toArray, List.getElem?_cons_zero, List.getElem?_cons_succ] at b0 b1 b2 b3 b4 b5 b6
          clear he
          go_wp2_with fail
          refine CE1.out.mono ?_
          rintro e Wc ⟨rfl, rfl⟩
          go_wp2_with fail
          refine CE1.out.mono ?_
          rintro e Wc ⟨rfl, rfl⟩
          simp only [Mi0] at *
          go_wp2_with fail
          go_meet
          case rel => exact ⟨rfl, Below.refl _ _⟩
      case rest =>
        obtain ⟨rfl, hcb⟩ := hcut
        have HB := Lib.hid (HBx.out.trans (hcb.out.mono HBx.out.size))
        have E3 := Lib.hid (F3.out.mods (S := No) (Mods.of_below hcb.out) fun _ h => h.elim)
        have HS := Lib.hid (HSx.out.below (hcb.out.mono HBx.out.size))
        clear hcb HBx HSx F2 F3 HR HD
        go_wp2_with fail
        refine (picterm_any E3.out a1 a3 ⟨r0, r1⟩ ⟨k0, k1⟩ (m := m3) (t := t3) (by rw [List.drop_zero]; exact HE3.out)).mono ?_
        rintro e Wr ⟨rfl, hm, i3, hc, hd⟩
        go_upto_region 15 with fail
        have hma := hm.alloc (.cells #[.int .i64 m3.kind, .int .i64 m3.a, .int .i64 m3.to, .int .i64 m3.el] 37)
        have hbx := (hm.below (B := w.heap.size) HB.out.size (fun k hk => by unfold Is at hk; have h1 := HP1.out; have h2 := HP2.out; have h3 := HP3.out; omega)).alloc (Nat.le_trans HB.out.size hm.size) (.cells #[.int .i64 m3.kind, .int .i64 m3.a, .int .i64 m3.to, .int .i64 m3.el] 37)
        have HBx := Lib.hid (HB.out.trans hbx)
        have F3 := Lib.hid (hc.alloc (.cells #[.int .i64 m3.kind, .int .i64 m3.a, .int .i64 m3.to, .int .i64 m3.el] 37))
        have HSx := Lib.hid (HS.out.below hbx)
        have HR := Lib.hid (Row.new Wr 37 #[.int .i64 m3.kind, .int .i64 m3.a, .int .i64 m3.to, .int .i64 m3.el])
        have HD := Lib.hid hd
        clear hm hma hbx hc hd HB HS E3
        generalize (Wr.alloc (.cells #[.int .i64 m3.kind, .int .i64 m3.a, .int .i64 m3.to, .int .i64 m3.el] 37)) = Wb at *
        generalize Wr.heap.size = bx at *
        by_cases he : t3.err = 0
        · obtain ⟨v1, v3⟩ := termE_ok (regs := a1) (n := a3) hby (by rw [HE3.out]; exact he)
          rw [HE3.out] at v1 v3
          dsimp only at v1 v3
          obtain ⟨⟨o1, o2⟩, q1, q2, q3, _⟩ := eT_iff.1 v1
          have C1 := Lib.hid (rterm_any m3 a1 a3 Wb)
          rw [v1] at C1
          have q1' := fR_iff.1 q1
          have q2' := fR_iff.1 q2
          have q3' := fR_iff.1 q3
          have C2 := Lib.hid fun W => rputt17_any (w := W) (t := m3) ⟨by omega, by omega⟩ (fun h => ⟨(q1' h).1, by have := q1' h; omega⟩) (fun h => ⟨(q2' h).1, by have := q2' h; omega⟩) (fun h => ⟨(q3' h).1, by have := q3' h; omega⟩)
          have HL := Lib.hid (encT_len m3)
          have HQ := Lib.hid (readQ_true v3 (HD.out he) F3.out.le)
          clear o1 o2 q1 q2 q3 q1' q2' q3' v1 v3
          obtain ⟨en, hen⟩ : ∃ z, z = encT m3 := ⟨_, rfl⟩
          rw [← hen] at C2 HL HQ
          have hel := HL.out
          clear hen
          have CE1 : Hid (∀ W, Below Wb.heap.size Wb W → Calls Try.prog 28 #[.pointer (some ⟨p3, 0, none⟩)] W fun e w' => e = .returned (.int .i64 0) ∧ W = w') := fun W hb => by
            have := err_any (F3.out.mods (S := No) (Mods.of_below hb) fun _ h => h.elim)
            rw [he] at this
            exact this
          clear he
          go_wp2_with fail
          refine (CE1.out _ (Below.refl _ _)).mono ?_
          rintro e Wc ⟨rfl, rfl⟩
          have b0 := HR.out.cell 0; have b1 := HR.out.cell 1; have b2 := HR.out.cell 2; have b3 := HR.out.cell 3
          simp only [List.getElem?_toArray, List.getElem?_cons_zero, List.getElem?_cons_succ] at b0 b1 b2 b3
          go_wp2_with fail
          refine C1.out.mono ?_
          rintro e Wc ⟨rfl, hb⟩
          have HBc := Lib.hid hb
          have HRc := Lib.hid (HR.out.below hb HR.out.lt)
          clear b0 b1 b2 b3 C1 hb
          have b0 := HRc.out.cell 0; have b1 := HRc.out.cell 1; have b2 := HRc.out.cell 2; have b3 := HRc.out.cell 3
          simp only [List.getElem?_toArray, List.getElem?_cons_zero, List.getElem?_cons_succ] at b0 b1 b2 b3
          go_wp2_with fail
          refine (C2.out _).mono ?_
          rintro e Wd ⟨Ae, ce, rfl, ho, hb⟩
          have HBd := Lib.hid (HBc.out.trans (hb.mono HBc.out.size))
          have hse := Sees.of_own ho
          have hsl := (HSx.out.below (HBd.out.mono HBx.out.size)).more (Nat.le_trans HBx.out.size HBd.out.size)
          have C3 := Lib.hid (read17_any (F3.out.mods (S := No) (Mods.of_below HBd.out) fun _ h => h.elim) hsl hse (c2 := ce) hlc hcm (by omega) (by omega))
          rw [HQ.out] at C3
          clear b0 b1 b2 b3 C2 hb ho hse hsl
          go_wp2_with fail
          refine C3.out.mono ?_
          rintro e We ⟨rfl, n9, h9⟩
          have HBe := Lib.hid (h9 ▸ blw_drewN HBd.out n9 : Below Wb.heap.size Wb We)
          clear h9 C3
          go_wp2
          go_ret
          exact ⟨rfl, HBx.out.trans (HBe.out.mono HBx.out.size)⟩
        · have hz := termE_bad HE3.out he
          subst hz
          have CE1 := Lib.hid (err_any F3.out)
          have d0 : (t3.err == 0) = false := by simpa using he
          have d1 : (t3.err != 0) = true := by simpa using he
          have b0 := HR.out.cell 0; have b1 := HR.out.cell 1; have b2 := HR.out.cell 2; have b3 := HR.out.cell 3
          simp only [List.getElem?_toArray, List.getElem?_cons_zero, List.getElem?_cons_succ] at b0 b1 b2 b3
          clear he
          go_wp2_with fail
          refine CE1.out.mono ?_
          rintro e Wc ⟨rfl, rfl⟩
          simp only [Tm0] at *
          go_wp2
          go_ret
          exact ⟨rfl, HBx.out⟩

end Go.Proofs.Ytacmgfndmolnfaa
