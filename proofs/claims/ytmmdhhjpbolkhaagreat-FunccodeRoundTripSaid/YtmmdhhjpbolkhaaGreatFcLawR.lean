/-
  The walk of FunccodeRoundTrip.
-/
import Derived.Test.YtmmdhhjpbolkhaaGreatFcLawC
import Derived.Test.YtmmdhhjpbolkhaaGreatIcSt
import Derived.Test.YtmmdhhjpbolkhaaGreatPk7
import Derived.Test.YtmmdhhjpbolkhaaGreatVarAdd
import Derived.Test.YtmmdhhjpbolkhaaGreatFcFx
import Derived.BigQuiet
import Derived.Deep.RegionHeldLaw
import Derived.Deep.DeepMust
namespace Go.Proofs.YtmmdhhjpbolkhaaGreat
open Go.RowKit
set_option linter.unusedVariables false
set_option linter.unusedSimpArgs false

/-- What the walk carries: both functions in their boxes. -/
structure RTS (w : World) (f : Fd) (Af : Option Addr) (cf : Nat) (g : Gd) (Ag : Option Addr) (cg : Nat) (W : World) : Prop where
  blw : Below w.heap.size w W
  bf : Row W w.heap.size 24 #[.int .i64 f.args, .int .i64 f.regs, .slice Af f.bs.length cf]
  bg : Row W (w.heap.size + 1) 27 #[.int .i64 g.args, .int .i64 g.regs, .int .i64 g.slots, .slice Ag g.ms.length cg]

section
variable {w W W' : World} {f : Fd} {Af : Option Addr} {cf : Nat} {g : Gd} {Ag : Option Addr} {cg : Nat}

theorem RTS.next (h : RTS w f Af cf g Ag cg W) (hb : Below W.heap.size W W') : RTS w f Af cf g Ag cg W' := ⟨h.blw.trans (hb.mono h.blw.size), h.bf.below hb h.bf.lt, h.bg.below hb h.bg.lt⟩

theorem RTS.mods {p : Nat} (h : RTS w f Af cf g Ag cg W) (hm : Mods (Is p) W W') (hp : w.heap.size + 1 < p) : RTS w f Af cf g Ag cg W' :=
  ⟨h.blw.trans (hm.below h.blw.size fun k hk => by unfold Is at hk; omega), h.bf.mods hm (fun e => by unfold Is at e; omega), h.bg.mods hm (fun e => by unfold Is at e; omega)⟩

theorem RTS.cells (h : RTS w f Af cf g Ag cg W) : W.cell? ⟨w.heap.size, 0, none⟩ = some (.int .i64 f.args) ∧ W.cell? ⟨w.heap.size, 1, none⟩ = some (.int .i64 f.regs) ∧ W.cell? ⟨w.heap.size, 2, none⟩ = some (.slice Af f.bs.length cf) ∧
    W.cell? ⟨w.heap.size + 1, 0, none⟩ = some (.int .i64 g.args) ∧ W.cell? ⟨w.heap.size + 1, 1, none⟩ = some (.int .i64 g.regs) ∧ W.cell? ⟨w.heap.size + 1, 2, none⟩ = some (.int .i64 g.slots) ∧ W.cell? ⟨w.heap.size + 1, 3, none⟩ = some (.slice Ag g.ms.length cg) := by
  have b0 := h.bf.cell 0; have b1 := h.bf.cell 1; have b2 := h.bf.cell 2
  have c0 := h.bg.cell 0; have c1 := h.bg.cell 1; have c2 := h.bg.cell 2; have c3 := h.bg.cell 3
  simp only [List.getElem?_toArray, List.getElem?_cons_zero, List.getElem?_cons_succ] at b0 b1 b2 c0 c1 c2 c3
  exact ⟨b0, b1, b2, c0, c1, c2, c3⟩

end

set_option maxRecDepth 100000 in
set_option maxHeartbeats 4000000 in
theorem FunccodeRoundTrip_walk (a0 a1 : Array Value) (a2 : Option Addr) (len2 cap2 : Nat) (z2 : List Int) (w : World) (w0 : IsFn w a0) (w1 : IsMFn w a1) (w2 : IsRow .u8 w a2 len2 cap2 z2) :
    Calls Tryz.prog 3 #[.agg a0, .agg a1, .slice a2 len2 cap2] w fun e w' => e = .returned (.bool true) ∧ Below w.heap.size w w' := by
  obtain ⟨l, rfl, hby, hs, hlc, hcm⟩ := w2.bytes
  obtain ⟨fa, fr, Af, fb, cf, rfl, _, _, hf1, hf2, hfb, hfw⟩ := w0
  obtain ⟨ga, gr, gs, Ag, gm, cg, rfl, _, _, _, hg1, hg2, hgb, hgw⟩ := w1
  clear w2
  obtain ⟨f, rfl, rfl, rfl⟩ : ∃ f : Fd, f.args = fa ∧ f.regs = fr ∧ f.bs = fb := ⟨⟨fa, fr, fb⟩, rfl, rfl, rfl⟩
  obtain ⟨g, rfl, rfl, rfl, rfl⟩ : ∃ g : Gd, g.args = ga ∧ g.regs = gr ∧ g.slots = gs ∧ g.ms = gm := ⟨⟨ga, gr, gs, gm⟩, rfl, rfl, rfl, rfl⟩
  have HWF : Hid (∀ b ∈ f.bs, ∀ x ∈ b.code, InI x.imm) := fun b hb x hx => i64_of_wf ((hfw b hb).1 x hx).2.2.2.2
  have HWG : Hid (∀ b ∈ g.ms, ∀ x ∈ b.code, InI x.imm) := fun b hb x hx => i64_of_wf ((hgw b hb).1 x hx).2.2.2.2.1
  have HS := Lib.hid hs
  have HFB := Lib.hid hfb
  have HGB := Lib.hid hgb
  have hfm : f.bs.length ≤ maxLen := Nat.le_trans hf1 hf2
  have hgm : g.ms.length ≤ maxLen := Nat.le_trans hg1 hg2
  have HR0 : Hid (RTS w f Af cf g Ag cg ((w.alloc (.cells #[.int .i64 f.args, .int .i64 f.regs, .slice Af f.bs.length cf] 24)).alloc (.cells #[.int .i64 g.args, .int .i64 g.regs, .int .i64 g.slots, .slice Ag g.ms.length cg] 27))) :=
    ⟨((Below.refl w.heap.size w).alloc (Nat.le_refl _) _).alloc (by simp) _, (Row.new w _ _).alloc _, Row.new' (by simp) _ _⟩
  clear hs hfb hgb hfw hgw
  go_enter Tryz.func3, Tryz.ntmps3
  go_upto_region 1 with fail
  generalize ((w.alloc (.cells #[.int .i64 f.args, .int .i64 f.regs, .slice Af f.bs.length cf] 24)).alloc (.cells #[.int .i64 g.args, .int .i64 g.regs, .int .i64 g.slots, .slice Ag g.ms.length cg] 27)) = W0 at *
  go_cut [38] from 12 (fun s38 wx => ∃ b : Bool, s38 = .bool b ∧ Hid (RTS w f Af cf g Ag cg wx) ∧ Hid (b = false → FewF f.regs f.bs ∧ FewM g.regs g.slots g.ms ∧ eF f.args f.regs f.bs = 0 ∧ eMF g.args g.regs g.slots g.ms = 0 ∧ l.length ≤ 1000))
  case first =>
    have c0 := HR0.out.blw.size
    go_wp2_with fail
    refine (awake18_any _).mono ?_
    rintro e W1 ⟨rfl, hb⟩
    have HR1 := Lib.hid (HR0.out.next hb)
    clear hb HR0
    obtain ⟨b0, b1, b2, b3, b4, b5, b6⟩ := HR1.out.cells
    have C1 := Lib.hid (rfew_any w.heap.size Af f.bs cf f.args f.regs W1 (HFB.out.below HR1.out.blw) HR1.out.blw.size hfm)
    unfold maxLen at hfm hgm
    go_wp2_with fail
    refine C1.out.mono ?_
    rintro e W2 ⟨⟨bb, rfl, hfew⟩, hb⟩
    have HR2 := Lib.hid (HR1.out.next hb)
    have HFW := Lib.hid hfew
    clear b0 b1 b2 b3 b4 b5 b6 hb HR1 C1 hfew
    obtain ⟨b0, b1, b2, b3, b4, b5, b6⟩ := HR2.out.cells
    cases bb
    · go_wp2_with fail
      go_meet
      case rel => exact ⟨true, rfl, HR2.out, fun h => by cases h⟩
    · have C2 := Lib.hid (rmfew_any w.heap.size Ag g.ms cg g.args g.regs g.slots W2 (HGB.out.below HR2.out.blw) HR2.out.blw.size (by unfold maxLen; exact hgm))
      go_wp2_with fail
      refine C2.out.mono ?_
      rintro e W3 ⟨⟨bb, rfl, hfew⟩, hb⟩
      have HR3 := Lib.hid (HR2.out.next hb)
      have HGW := Lib.hid hfew
      clear b0 b1 b2 b3 b4 b5 b6 hb HR2 C2 hfew
      obtain ⟨b0, b1, b2, b3, b4, b5, b6⟩ := HR3.out.cells
      cases bb
      · go_wp2_with fail
        go_meet
        case rel => exact ⟨true, rfl, HR3.out, fun h => by cases h⟩
      · obtain ⟨q1, q2, q3⟩ := HFW.out (by first | rfl | trivial)
        obtain ⟨q4, q5, q6, q7⟩ := HGW.out (by first | rfl | trivial)
        have C3 := Lib.hid (rcheck_any w.heap.size Af f.bs cf f.args f.regs W3 (HFB.out.below HR3.out.blw) HR3.out.blw.size (by omega) (by omega))
        obtain ⟨ef, hef⟩ : ∃ z, z = eF f.args f.regs f.bs := ⟨_, rfl⟩
        rw [← hef] at C3
        have HEF := Lib.hid hef
        clear hef
        go_wp2_with fail
        refine C3.out.mono ?_
        rintro e W4 ⟨rfl, hb⟩
        have HR4 := Lib.hid (HR3.out.next hb)
        clear b0 b1 b2 b3 b4 b5 b6 hb HR3 C3
        obtain ⟨b0, b1, b2, b3, b4, b5, b6⟩ := HR4.out.cells
        by_cases h1 : ef = 0
        · have d1 : (ef != 0) = false := by simp [h1]
          have HE1 : Hid (eF f.args f.regs f.bs = 0) := HEF.out.symm.trans h1
          have C4 := Lib.hid (rmcheck_any w.heap.size Ag g.ms cg g.args g.regs g.slots W4 (HGB.out.below HR4.out.blw) HR4.out.blw.size (by omega) (by omega))
          obtain ⟨eg, heg⟩ : ∃ z, z = eMF g.args g.regs g.slots g.ms := ⟨_, rfl⟩
          rw [← heg] at C4
          have HEG := Lib.hid heg
          clear heg h1
          go_wp2_with fail
          refine C4.out.mono ?_
          rintro e W5 ⟨rfl, hb⟩
          have HR5 := Lib.hid (HR4.out.next hb)
          clear b0 b1 b2 b3 b4 b5 b6 hb HR4 C4
          by_cases h2 : eg = 0
          · have d2 : (eg != 0) = false := by simp [h2]
            have HE2 : Hid (eMF g.args g.regs g.slots g.ms = 0) := HEG.out.symm.trans h2
            clear h2
            by_cases h3 : 1000 < l.length
            · have h3' : (1000 : Int) < l.length := by omega
              go_wp2_with fail
              go_meet
              case rel => exact ⟨true, rfl, HR5.out, fun h => by cases h⟩
            · have h3' : ¬ (1000 : Int) < l.length := by omega
              go_wp2_with fail
              go_meet
              case rel => exact ⟨_, rfl, HR5.out, fun _ => ⟨⟨q1, q2, q3⟩, ⟨q4, q5, q6, q7⟩, HE1.out, HE2.out, by omega⟩⟩
          · have d2 : (eg != 0) = true := by simp [h2]
            clear h2
            go_wp2_with fail
            go_meet
            case rel => exact ⟨true, rfl, HR5.out, fun h => by cases h⟩
        · have d1 : (ef != 0) = true := by simp [h1]
          clear h1
          go_wp2_with fail
          go_meet
          case rel => exact ⟨true, rfl, HR4.out, fun h => by cases h⟩
  case rest =>
    obtain ⟨bb, hs38, HR1, HG⟩ := hcut
    subst hs38
    clear HR0
    generalize wc = W1 at *
    cases bb
    case true =>
      go_wp2_with fail
      refine (awake18_any _).mono ?_
      rintro e W2 ⟨rfl, hb⟩
      have HR2 := Lib.hid (HR1.out.next hb)
      go_wp2
      go_ret
      exact ⟨rfl, HR2.out.blw⟩
    case false =>
      obtain ⟨kf, kg, k1, k2, k3⟩ := HG.out rfl
      have HSF : Hid (f.bs.length ≤ 1000 ∧ codeN f.bs ≤ 1000000 ∧ (encF' f).length ≤ 30000) := by
        obtain ⟨q1, q2, q3⟩ := kf
        have := encF_len18 f
        exact ⟨by omega, by omega, by omega⟩
      have HSG : Hid (g.ms.length ≤ 1000 ∧ mcodeN g.ms ≤ 1000000 ∧ (encG g).length ≤ 60000) := by
        obtain ⟨q1, q2, q3, q4⟩ := kg
        have := encG_len18 g
        exact ⟨by omega, by omega, by omega⟩
      have HOKG := Lib.hid (eMF_ok18 k2)
      have HPF : Hid (∀ r, funcE ⟨encF' f ++ r, 0⟩ = (f, ⟨r, 0⟩)) := fun r => funcE_put k1 HWF.out r
      have HPG : Hid (∀ r, mfuncE ⟨encG g ++ r, 0⟩ = (g, ⟨r, 0⟩)) := fun r => mfuncE_put k2 HWG.out r
      clear kf kg
      have HV := Lib.hid (VF.of k1 HWF.out)
      have HW := Lib.hid (VG.of k2 HWG.out)
      go_upto_region 4 with fail
      have HR2 := Lib.hid (HR1.out.next ((Below.refl _ W1).alloc (Nat.le_refl _) (.cells #[.slice none 0 0] 36)))
      have HW2 := Lib.hid (Wri.new W1)
      have HM2 := Lib.hid ((Mods.refl (From W1.heap.size) W1).alloc (.cells #[.slice none 0 0] 36))
      have HZ2 : Hid (W1.heap.size + 1 ≤ (W1.alloc (.cells #[.slice none 0 0] 36)).heap.size) := by show _ ≤ _; simp
      have HZ := Lib.hid HR1.out.bg.lt
      generalize (W1.alloc (.cells #[.slice none 0 0] 36)) = W2 at *
      have C1 := Lib.hid (pputf_any HW2.out (by decide) HZ2.out HV.out (c := cf) (((HFB.out.below HR2.out.blw)).more HR1.out.blw.size) hf1)
      obtain ⟨b0, b1, b2, b3, b4, b5, b6⟩ := HR2.out.cells
      go_wp2_with fail
      refine C1.out.mono ?_
      rintro e W3 ⟨rfl, ⟨v3, hw3⟩, hm3⟩
      have hb3 : Below W1.heap.size W2 W3 := hm3.below (by have := HZ2.out; omega) fun k hk => hk
      have HR3 : Hid (RTS w f Af cf g Ag cg W3) := ⟨HR2.out.blw.trans (hb3.mono HR1.out.blw.size), HR2.out.bf.below hb3 HR1.out.bf.lt, HR2.out.bg.below hb3 HR1.out.bg.lt⟩
      have HW3 : Hid (Wri W3 W1.heap.size W3.heap.size v3 (encF' f)) := hw3
      have HM3 := Lib.hid (HM2.out.trans hm3)
      clear hw3 hb3 hm3 C1 b0 b1 b2 b3 b4 b5 b6 HR2 HW2 HM2 HZ2
      have C2 := Lib.hid (pputmf_any HW3.out (by have := HV.out.len; omega) (Nat.le_refl _) HW.out (c := cg) (((HGB.out.below HR3.out.blw)).more HR1.out.blw.size) hg1)
      obtain ⟨b0, b1, b2, b3, b4, b5, b6⟩ := HR3.out.cells
      go_wp2_with fail
      refine C2.out.mono ?_
      rintro e W4 ⟨rfl, ⟨v4, hw4⟩, hm4⟩
      have hb4 : Below W1.heap.size W3 W4 := hm4.below (by have := HM3.out.size; omega) fun k hk => hk
      have HR4 : Hid (RTS w f Af cf g Ag cg W4) := ⟨HR3.out.blw.trans (hb4.mono HR1.out.blw.size), HR3.out.bf.below hb4 HR1.out.bf.lt, HR3.out.bg.below hb4 HR1.out.bg.lt⟩
      have HW4 : Hid (Wri W4 W1.heap.size W4.heap.size v4 (encF' f ++ encG g)) := hw4
      clear hw4 hb4 hm4 C2 b0 b1 b2 b3 b4 b5 b6 HR3 HW3 HM3
      go_upto_region 6 with fail
      have Q1 : Hid (∀ W, BlksAt W w.heap.size Af f.bs → w.heap.size ≤ W.heap.size → Calls Tryz.prog 12 #[.agg #[.int .i64 f.args, .int .i64 f.regs, .slice Af f.bs.length cf]] W (RB W (encF' f))) := fun W hb hsz => rputf18_any w.heap.size Af f.bs cf f.args f.regs W hb hsz ⟨HV.out.a.1, by have := HV.out.a.2; omega⟩ ⟨HV.out.r.1, by have := HV.out.r.2; omega⟩ (by have := HV.out.n.2; omega) (fun x hx => (HV.out.v x hx).pb) (Nat.le_trans HV.out.len (by decide))
      have Q2 : Hid (∀ W, MBlksAt W w.heap.size Ag g.ms → w.heap.size ≤ W.heap.size → Calls Tryz.prog 13 #[.agg #[.int .i64 g.args, .int .i64 g.regs, .int .i64 g.slots, .slice Ag g.ms.length cg]] W (RB W (encG g))) := fun W hb hsz => rputmf18_any w.heap.size Ag g.ms cg g.args g.regs g.slots W hb hsz ⟨HW.out.a.1, by have := HW.out.a.2; omega⟩ ⟨HW.out.r.1, by have := HW.out.r.2; omega⟩ ⟨HW.out.s.1, by have := HW.out.s.2; omega⟩ (by have := HW.out.n.2; omega) (fun x hx => (HW.out.v x hx).pb) (Nat.le_trans HW.out.len (by decide))
      have m1 := HV.out.len
      have m2 := HW.out.len
      have n1 : 0 < (encF' f).length := by have := putS_pos f.args.toNat; unfold encF'; rw [List.length_append]; omega
      have n2 : 0 < (encG g).length := by have := putS_pos g.args.toNat; unfold encG; rw [List.length_append]; omega
      obtain ⟨l1, hl1⟩ : ∃ z, z = encF' f := ⟨_, rfl⟩
      obtain ⟨l2, hl2⟩ : ∃ z, z = encG g := ⟨_, rfl⟩
      rw [← hl1] at Q1 HW4 m1 n1 HSF HPF
      rw [← hl2] at Q2 HW4 m2 n2 HSG HPG
      have HBT0 : Hid (Byt (l1 ++ l2)) := by show Byt _; rw [hl1, hl2]; exact byt_app18 HV.out.byt HW.out.byt
      clear hl1 hl2
      obtain ⟨Wt, hWt⟩ : ∃ z, z = W4 := ⟨_, rfl⟩
      subst hWt
      obtain ⟨LL, hLL⟩ : ∃ z, z = l1 ++ l2 := ⟨_, rfl⟩
      have HLN : Hid (LL.length = l1.length + l2.length) := by show _ = _; rw [hLL, List.length_append]
      have HLL := Lib.hid hLL
      rw [← hLL] at HW4
      have HBT : Hid (Byt (l1 ++ l2)) := HBT0.out
      clear HBT0
      clear hLL
      go_cut [8] from 48 (fun s8 wx => ∃ q c, s8 = .slice (some ⟨q, 0, none⟩) LL.length c ∧ Hid (ST Wt [(q, c, LL.length, LL)] wx))
      case first =>
        have HX : Hid (∀ W, Below Wt.heap.size Wt W → W.cell? ⟨w.heap.size, 0, none⟩ = some (.int .i64 f.args) ∧ W.cell? ⟨w.heap.size, 1, none⟩ = some (.int .i64 f.regs) ∧ W.cell? ⟨w.heap.size, 2, none⟩ = some (.slice Af f.bs.length cf) ∧ W.cell? ⟨w.heap.size + 1, 0, none⟩ = some (.int .i64 g.args) ∧ W.cell? ⟨w.heap.size + 1, 1, none⟩ = some (.int .i64 g.regs) ∧ W.cell? ⟨w.heap.size + 1, 2, none⟩ = some (.int .i64 g.slots) ∧ W.cell? ⟨w.heap.size + 1, 3, none⟩ = some (.slice Ag g.ms.length cg)) := fun W hb => (HR4.out.next hb).cells
        have C1 : Hid (∀ W L, ST Wt L W → Calls Tryz.prog 12 #[.agg #[.int .i64 f.args, .int .i64 f.regs, .slice Af f.bs.length cf]] W fun e w' => ∃ g c, e = .returned (.slice (some ⟨g, 0, none⟩) l1.length c) ∧ ST Wt (L ++ [(g, c, l1.length, l1)]) w') := fun W L h => (Q1.out W (HFB.out.below (HR4.out.next h.blw).blw) (HR4.out.next h.blw).blw.size).mono (by
          rintro e w' ⟨A, c, rfl, ho, hb⟩
          obtain ⟨g, cap, hv, _⟩ := ho.form (by omega)
          rw [hv] at ho ⊢
          exact ⟨g, cap, rfl, h.call hb ho⟩)
        have C2 : Hid (∀ W L, ST Wt L W → Calls Tryz.prog 13 #[.agg #[.int .i64 g.args, .int .i64 g.regs, .int .i64 g.slots, .slice Ag g.ms.length cg]] W fun e w' => ∃ g c, e = .returned (.slice (some ⟨g, 0, none⟩) l2.length c) ∧ ST Wt (L ++ [(g, c, l2.length, l2)]) w') := fun W L h => (Q2.out W (HGB.out.below (HR4.out.next h.blw).blw) (HR4.out.next h.blw).blw.size).mono (by
          rintro e w' ⟨A, c, rfl, ho, hb⟩
          obtain ⟨g, cap, hv, _⟩ := ho.form (by omega)
          rw [hv] at ho ⊢
          exact ⟨g, cap, rfl, h.call hb ho⟩)
        obtain ⟨i0, hi0, hz0, hz1, hz2⟩ := info_parts Tryz.infoU8c
        have hT := ST.new Wt
        obtain ⟨b0, b1, b2, b3, b4, b5, b6⟩ := HR4.out.cells
        clear HR4 HW4 HS Q1 Q2 HV HW HBT HFB HGB hby hlc hcm HWF HWG HG HR1 HZ k1 k2 k3 HSF HSG HOKG HPF HPG
        go_wp2_with fail
        go_region_held_law (fun w' => w'.cell? ⟨w.heap.size, 0, none⟩ = some (.int .i64 f.args) ∧ w'.cell? ⟨w.heap.size, 1, none⟩ = some (.int .i64 f.regs) ∧ w'.cell? ⟨w.heap.size, 2, none⟩ = some (.slice Af f.bs.length cf) ∧ w'.cell? ⟨w.heap.size + 1, 0, none⟩ = some (.int .i64 g.args) ∧ w'.cell? ⟨w.heap.size + 1, 1, none⟩ = some (.int .i64 g.regs) ∧ w'.cell? ⟨w.heap.size + 1, 2, none⟩ = some (.int .i64 g.slots) ∧ w'.cell? ⟨w.heap.size + 1, 3, none⟩ = some (.slice Ag g.ms.length cg)) (first | exact HX.out _ hT.blw | exact HX.out _ hT.drew.blw | exact HX.out _ (hT.drewN _).blw) (first
          | (go_at_call 12; go_must ((with_reducible refine (C1.out _ _ (by first | exact hT | exact hT.drew | exact hT.drewN _)).mono ?_); rintro e Wa ⟨g1, ca, rfl, hT⟩; simp only [List.nil_append, List.cons_append] at hT))
          | (go_at_call 13; go_must ((with_reducible refine (C2.out _ _ (by first | exact hT | exact hT.drew | exact hT.drewN _)).mono ?_); rintro e Wa ⟨g2, cb, rfl, hT⟩; simp only [List.nil_append, List.cons_append] at hT))
          | (refine step_append_lies _ rfl (.tmp 49) (.tmp 51) 28 rfl Wt.heap.size 5 i0 (.int .u8 0) 1 1 Tryz.underlying28 hi0 hz0 hz1 hz2 rfl (by decide) _ l1.length (bts l1) rfl hT.fst ⟨g2, 0, none⟩ _ _ (bts l2) rfl (by rw [bts_length, Nat.mul_one]) hT.snd.news (bts_one _) (by omega) (by unfold maxLen; omega) (by omega) hT.blw.size _ rfl ?_; intro g4 cd W4 ho4 hg4 hat4 hlt4; have hT := hT.app ho4 hg4 hat4; clear ho4 hg4 hat4 hlt4)
          )
        simp only [List.getElem_toArray, List.getElem_cons_succ, List.getElem_cons_zero, List.set_cons_succ, List.set_cons_zero]
        go_wp2_with fail
        go_meet
        case rel => exact ⟨g4, cd, by rw [HLN.out], by rw [HLN.out, HLL.out]; exact hT⟩
      case rest =>
        obtain ⟨q8, c8, rfl, hcT⟩ := hcut
        have hb := hcT.out.blw
        have HR9 := Lib.hid (HR4.out.next hb)
        have HW9 := Lib.hid (HW4.out.mods (S := No) (Mods.of_below hb) fun _ hk => hk.elim)
        have HO9 := Lib.hid (own_base17 hcT.out.fst (Nat.zero_le _))
        have hln : LL.length ≤ 90000 := by have h1 := HLN.out; have h2 := HSF.out; have h3 := HSG.out; omega
        clear hcT hb HR4 HW4 Q1 Q2 m1 m2 n1 n2 HV HW HWF HWG hfm hgm
        dsimp only at HO9
        go_wp2_with fail
        refine (out_any HW9.out (by omega)).mono ?_
        rintro e Wo ⟨Ao, co, rfl, ho, hb⟩
        have HR10 := Lib.hid (HR9.out.next hb)
        have HO10 := Lib.hid ((Mods.of_below (S := No) hb).own HO9.out fun _ _ hk => hk)
        have hso := Sees.of_own ho
        have hsw := Sees.of_own HO10.out
        have CSM := Lib.hid (same_any Wo.heap.size Ao (some ⟨q8, 0, none⟩) LL LL co c8 Wo hso hsw (by unfold maxLen; omega) (by unfold maxLen; omega))
        rw [sameB_self] at CSM
        have HSW := Lib.hid hsw
        clear hso ho hb HR9 HW9 HO9 HO10 hsw
        go_wp2_with fail
        refine CSM.out.mono ?_
        rintro e Wp ⟨rfl, n9, rfl⟩
        have hbd : Below Wo.heap.size Wo (Wo.drewN n9) := let b := Below.refl Wo.heap.size Wo; ⟨b.os, b.tape, b.output, b.size, b.block⟩
        have HR11 := Lib.hid (HR10.out.next hbd)
        have HSW11 : Hid (Sees (Wo.drewN n9) (Wo.drewN n9).heap.size (some ⟨q8, 0, none⟩) (bts LL)) := HSW.out.below hbd
        clear hbd CSM HSW HR10
        go_upto_region 9 with fail
        generalize (Wo.drewN n9) = Wp at *
        have HSL : Hid (Sees Wp Wp.heap.size a2 (bts l)) := (HS.out.below HR11.out.blw).more HR11.out.blw.size
        have CAD := Lib.hid (add_any (some ⟨q8, 0, none⟩) a2 LL l c8 cap2 Wp HSW11.out HSL.out (by omega))
        clear HSW11 HSL
        go_wp2_with fail
        refine CAD.out.mono ?_
        rintro e Wq ⟨Aq, cq, rfl, ho, hb⟩
        have HR12 := Lib.hid (HR11.out.next hb)
        have hsq := Sees.of_own ho
        have hbyt : Byt (LL ++ l) := by
          rw [HLL.out]
          exact byt_app18 HBT.out hby
        have hcl : (LL ++ l).length ≤ 95000 := by rw [List.length_append]; omega
        have CN := Lib.hid (new_any Aq (LL ++ l) Wq.heap.size cq Wq hsq (Nat.le_refl _) hbyt (by omega))
        rw [List.length_append] at CN
        have HPW : Hid (w.heap.size + 1 < Wq.heap.size) := HR12.out.bg.lt
        have HLE := Lib.hid hcl
        clear ho hb hsq hbyt CAD HR11 hcl
        go_wp2_with fail
        refine CN.out.mono ?_
        rintro e Wr ⟨p, A9, k9, rfl, hp, hc, hb⟩
        have HR13 := Lib.hid (HR12.out.next hb)
        have HP : Hid (w.heap.size + 1 < p) := by show _ < _; have := HPW.out; omega
        have C9 := Lib.hid (pfunc_any hc (f := f) (t := ⟨l2 ++ l, 0⟩) (by rw [List.drop_zero, HLL.out, List.append_assoc]; exact HPF.out _))
        have HPX : Hid (p < Wr.heap.size) := hc.row.lt
        clear hc hb hp CN HR12 HPW
        go_wp2_with fail
        refine C9.out.mono ?_
        rintro e Wf ⟨v, vs, rfl, hn, hm, i1, hc, hd⟩
        obtain ⟨Ap, cp, rfl, _, _, _⟩ := nest_blks hn
        have ha := (Below.refl Wf.heap.size Wf).alloc (Nat.le_refl _) (.cells #[.int .i64 f.args, .int .i64 f.regs, .slice Ap f.bs.length cp] 24)
        have HR14 := Lib.hid ((HR13.out.mods hm HP.out).next ha)
        have HX14 : Hid (∃ vs, NestV bshp (Wf.alloc (.cells #[.int .i64 f.args, .int .i64 f.regs, .slice Ap f.bs.length cp] 24)) Wr.heap.size (.slice Ap f.bs.length cp) vs f.bs) := ⟨vs, hn.below ha⟩
        have RX14 := Lib.hid (Row.new Wf 24 #[.int .i64 f.args, .int .i64 f.regs, .slice Ap f.bs.length cp])
        have HC14 := Lib.hid (hc.alloc (.cells #[.int .i64 f.args, .int .i64 f.regs, .slice Ap f.bs.length cp] 24))
        have hd0 := hd rfl
        dsimp only at hd0 HC14
        have HD14 := Lib.hid hd0
        have HZ14 : Hid (p < Wf.heap.size) := by show _ < _; have := hm.size; have := HPX.out; omega
        clear hn hm hc hd hd0 ha C9 HR13
        go_upto_region 13 with fail
        generalize (Wf.alloc (.cells #[.int .i64 f.args, .int .i64 f.regs, .slice Ap f.bs.length cp] 24)) = V1 at *
        generalize Wf.heap.size = xf at *
        have C10 := Lib.hid (pmfunc_any HC14.out (g := g) (t := ⟨l, 0⟩) (by rw [HD14.out]; exact HPG.out _))
        go_wp2_with fail
        refine C10.out.mono ?_
        rintro e Wg ⟨v, vg, rfl, hn, hm, i2, hc, hd⟩
        obtain ⟨Aq2, cq2, hv, _, _⟩ := ownS_slice hn.outer
        rw [hn.len] at hv
        subst hv
        have ha := (Below.refl Wg.heap.size Wg).alloc (Nat.le_refl _) (.cells #[.int .i64 g.args, .int .i64 g.regs, .int .i64 g.slots, .slice Aq2 g.ms.length cq2] 27)
        have HR15 := Lib.hid ((HR14.out.mods hm HP.out).next ha)
        have HX15 : Hid (FX xf f Ap cp (Wg.alloc (.cells #[.int .i64 g.args, .int .i64 g.regs, .int .i64 g.slots, .slice Aq2 g.ms.length cq2] 27))) := by
          obtain ⟨vs, hn14⟩ := HX14.out
          exact ⟨(RX14.out.mods hm (fun e => by unfold Is at e; have := HZ14.out; omega)).alloc _, _, _, (hn14.mods hm fun k h1 _ h2 => by unfold Is at h2; have := HPX.out; omega).below ha⟩
        have HY15 : Hid (GX' Wg.heap.size g Aq2 cq2 (Wg.alloc (.cells #[.int .i64 g.args, .int .i64 g.regs, .int .i64 g.slots, .slice Aq2 g.ms.length cq2] 27))) := ⟨Row.new Wg _ _, _, _, hn.below ha⟩
        have HC15 := Lib.hid (hc.alloc (.cells #[.int .i64 g.args, .int .i64 g.regs, .int .i64 g.slots, .slice Aq2 g.ms.length cq2] 27))
        have hd0 := hd rfl
        dsimp only at hd0 HC15
        have HL15 : Hid (leftS (LL ++ l).length i2 0 = (l.length : Int)) := by
          show _ = _
          have h1 := congrArg List.length hd0
          have h2 := hc.le
          rw [List.length_drop] at h1
          rw [leftS_ok]
          omega
        clear hn hm hc hd hd0 ha C10 HR14 HX14 RX14 HC14 HD14 HZ14
        go_upto_region 14 with fail
        generalize (Wg.alloc (.cells #[.int .i64 g.args, .int .i64 g.regs, .int .i64 g.slots, .slice Aq2 g.ms.length cq2] 27)) = V2 at *
        generalize Wg.heap.size = xg at *
        obtain ⟨b0, b1, b2, b3, b4, b5, b6⟩ := HR15.out.cells
        have x0 := HX15.out.row.cell 0; have x1 := HX15.out.row.cell 1; have x2 := HX15.out.row.cell 2
        simp only [List.getElem?_toArray, List.getElem?_cons_zero, List.getElem?_cons_succ] at x0 x1 x2
        have C11 := Lib.hid (rsame7_any V2.heap.size Ap Af f.bs cp cf f.args f.regs V2 HX15.out.at_ ((HFB.out.below HR15.out.blw).more HR15.out.blw.size) (Nat.le_refl _) HSF.out.1 HSF.out.2.1)
        go_wp2_with fail
        refine C11.out.mono ?_
        rintro e V3 ⟨rfl, hb⟩
        have HR16 := Lib.hid (HR15.out.next hb)
        have HY16 := Lib.hid (HY15.out.next hb)
        have HC16 := Lib.hid (HC15.out.mods (S := No) (Mods.of_below hb) fun _ h => h.elim)
        clear hb C11 HR15 HX15 HY15 HC15 b0 b1 b2 b3 b4 b5 b6 x0 x1 x2
        obtain ⟨b0, b1, b2, b3, b4, b5, b6⟩ := HR16.out.cells
        have y0 := HY16.out.row.cell 0; have y1 := HY16.out.row.cell 1; have y2 := HY16.out.row.cell 2; have y3 := HY16.out.row.cell 3
        simp only [List.getElem?_toArray, List.getElem?_cons_zero, List.getElem?_cons_succ] at y0 y1 y2 y3
        have C12 := Lib.hid (rsame8_any V3.heap.size Aq2 Ag g.ms cq2 cg g.args g.regs g.slots V3 (HY16.out.at_ HOKG.out) ((HGB.out.below HR16.out.blw).more HR16.out.blw.size) (Nat.le_refl _) HSG.out.1 HSG.out.2.1)
        go_wp2_with fail
        refine C12.out.mono ?_
        rintro e V4 ⟨rfl, hb⟩
        have HR17 := Lib.hid (HR16.out.next hb)
        have HC17 := Lib.hid (HC16.out.mods (S := No) (Mods.of_below hb) fun _ h => h.elim)
        clear hb C12 HR16 HY16 HC16 b0 b1 b2 b3 b4 b5 b6 y0 y1 y2 y3
        go_wp2_with fail
        refine (err_any HC17.out).mono ?_
        rintro e W ⟨rfl, rfl⟩
        have CL := Lib.hid (left_any HC17.out)
        rw [HL15.out] at CL
        go_wp2_with fail
        refine CL.out.mono ?_
        rintro e W ⟨rfl, n18, rfl⟩
        have HR18 := Lib.hid (HR17.out.next (let b := Below.refl V4.heap.size V4; (⟨b.os, b.tape, b.output, b.size, b.block⟩ : Below V4.heap.size V4 (V4.drewN n18))))
        clear CL HR17 HC17
        go_wp2
        go_ret
        exact ⟨rfl, HR18.out.blw⟩

end Go.Proofs.YtmmdhhjpbolkhaaGreat
