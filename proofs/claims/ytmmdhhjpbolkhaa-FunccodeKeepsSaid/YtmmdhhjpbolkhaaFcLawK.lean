/-
  The walk of FunccodeKeeps.
-/
import Derived.Test.YtmmdhhjpbolkhaaFcAwake
import Derived.Test.YtmmdhhjpbolkhaaFcEnc
import Derived.Test.YtmmdhhjpbolkhaaPk7
import Derived.Test.YtmmdhhjpbolkhaaSrcRchk
import Derived.Test.YtmmdhhjpbolkhaaSrcSpoil
import Derived.Test.YtmmdhhjpbolkhaaSmSrc
import Derived.Deep.RegionHeld3
import Derived.Deep.DeepMust
import Derived.Deep.LoopGhost
import Derived.BigQuiet
namespace Go.Proofs.Ytmmdhhjpbolkhaa
open Go.RowKit
set_option linter.unusedVariables false
set_option linter.unusedSimpArgs false

/-- What the walk carries: the argument's box, the copy's box with its blocks, the writer. -/
structure KS (w : World) (args regs : Int) (A : Option Addr) (bs : List Blk) (c base x3 q : Nat) (v : Value) (vs : List Value) (l : List Nat) (bs' : List Blk) (W : World) : Prop where
  blw : Below w.heap.size w W
  bf : Row W w.heap.size 30 #[.int .i64 args, .int .i64 regs, .slice A bs.length c]
  see : BlksAt W w.heap.size A bs
  own : Row W x3 30 #[.int .i64 args, .int .i64 regs, v]
  nst : NestV bshp W base v vs bs'
  wr : ∃ hi u, Wri W q hi u l
  lo : w.heap.size < base
  nq : ∀ (i : Nat) (u : Value) (g : Nat), vs[i]? = some u → u.ownBlock = some g → g < q
  xq : x3 < q ∧ base ≤ q

section
variable {w W W' : World} {args regs : Int} {A : Option Addr} {bs bs' : List Blk} {c base x3 q : Nat} {v : Value} {vs : List Value} {l : List Nat}

theorem KS.next (h : KS w args regs A bs c base x3 q v vs l bs' W) (hb : Below W.heap.size W W') : KS w args regs A bs c base x3 q v vs l bs' W' :=
  ⟨h.blw.trans (hb.mono h.blw.size), h.bf.below hb h.bf.lt, h.see.below (hb.mono h.blw.size), h.own.below hb h.own.lt, h.nst.below hb, let ⟨hi, u, hw⟩ := h.wr; ⟨hi, u, hw.mods (S := No) (Mods.of_below hb) fun _ hk => hk.elim⟩, h.lo, h.nq, h.xq⟩

/-- A store into an instruction of the copy. -/
theorem KS.store (h : KS w args regs A bs c base x3 q v vs l bs' W) {i k g n c' : Nat} (hi : i < bs'.length) (hk : k < bs'[i].code.length) (hvs : vs[i]? = some (.slice (some ⟨g, 0, none⟩) n c')) (z : Int) :
    KS w args regs A bs c base x3 q v vs l (bs'.set i { bs'[i] with code := bs'[i].code.set k { bs'[i].code[k] with op := z } }) (W.setCell ⟨g, k * 5, none⟩ (.int .i64 z)) := by
  obtain ⟨blw, bf, see, own, nst, ⟨hi2, u, wr⟩, lo, nq, xq⟩ := h
  obtain ⟨x, _, hin⟩ := nst.get hvs
  have hg := ownS_lt hin g rfl
  have hgq := nq i _ g hvs rfl
  have hne := own_row_ne18 hin own (by decide) g rfl
  have hm : Mods (Is g) W (W.setCell ⟨g, k * 5, none⟩ (.int .i64 z)) := (Mods.refl _ W).put _ _
  have hbl : Below w.heap.size W (W.setCell ⟨g, k * 5, none⟩ (.int .i64 z)) := (Below.refl _ _).setCell (p := ⟨g, k * 5, none⟩) (by show _ ≤ g; omega) _
  have hn2 := nest_store (j := 0) nst hi hk hvs (by decide) (y' := { bs'[i].code[k] with op := z }) (z := .int .i64 z) rfl
  rw [Nat.add_zero] at hn2
  exact ⟨blw.trans hbl, bf.mods hm (fun e => by unfold Is at e; omega), see.below hbl, own.mods hm (fun e => hne e.symm), hn2, ⟨hi2, u, wr.mods hm fun k hk => by unfold Is at hk; omega⟩, lo, nq, xq⟩

end

/-- A list of bytes that is seen, whatever is laid. -/
def SE18 (A : Option Addr) (l : List Nat) (W : World) : Prop := ∃ B, B ≤ W.heap.size ∧ Sees W B A (bts l)

theorem SE18.next {A : Option Addr} {l : List Nat} {W W' : World} (h : SE18 A l W) (hb : Below W.heap.size W W') : SE18 A l W' := let ⟨B, h1, h2⟩ := h; ⟨B, Nat.le_trans h1 hb.size, h2.below (hb.mono h1)⟩

theorem below_drew18 (W : World) : Below W.heap.size W W.drew := let b := Below.refl W.heap.size W; ⟨b.os, b.tape, b.output, b.size, b.block⟩

theorem below_drewN18 (W : World) (n : Nat) : Below W.heap.size W (W.drewN n) := let b := Below.refl W.heap.size W; ⟨b.os, b.tape, b.output, b.size, b.block⟩

set_option maxRecDepth 100000 in
set_option maxHeartbeats 8000000 in
theorem FunccodeKeeps_walk (a0 : Array Value) (w : World) (w0 : IsFn w a0) :
    Calls Try.prog 5 #[.agg a0] w fun e w' => e = .returned (.bool true) ∧ Below w.heap.size w w' := by
  obtain ⟨args, regs, A, bs, c, rfl, ia, ir, hcl, hcm, hblk, hwf⟩ := w0
  have hrow := Row.new w 30 #[.int .i64 args, .int .i64 regs, .slice A bs.length c]
  have HB := Lib.hid ((Below.refl w.heap.size w).alloc (Nat.le_refl _) (.cells #[.int .i64 args, .int .i64 regs, .slice A bs.length c] 30))
  have HK := Lib.hid hblk
  have HWF : Hid (∀ b ∈ bs, ∀ x ∈ b.code, InI x.imm) := fun b hb x hx => i64_of_wf ((hwf b hb).1 x hx).2.2.2.2
  have hbm : bs.length ≤ maxLen := Nat.le_trans hcl hcm
  have HCC := Lib.hid hcl
  clear hblk hwf ia ir hcl hcm
  go_enter Try.func5, Try.ntmps5
  go_wp2_with fail
  refine (awake18_any _).mono ?_
  rintro e W1 ⟨rfl, hb⟩
  have HB1 := Lib.hid (HB.out.trans (hb.mono HB.out.size))
  have h1 := hrow.below hb hrow.lt
  have p0 := h1.cell 0; have p1 := h1.cell 1; have p2 := h1.cell 2
  simp only [List.getElem?_toArray, List.getElem?_cons_zero, List.getElem?_cons_succ] at p0 p1 p2
  have R1 := Lib.hid h1
  clear hb h1 hrow HB
  have C1 := Lib.hid (rfew_any w.heap.size A bs c args regs W1 (HK.out.below HB1.out) HB1.out.size hbm)
  unfold maxLen at hbm
  go_wp2_with fail
  refine C1.out.mono ?_
  rintro e W2 ⟨⟨bb, rfl, hfew⟩, hb⟩
  have HB2 := Lib.hid (HB1.out.trans (hb.mono HB1.out.size))
  have h2 := R1.out.below hb R1.out.lt
  clear p0 p1 p2
  have p0 := h2.cell 0; have p1 := h2.cell 1; have p2 := h2.cell 2
  simp only [List.getElem?_toArray, List.getElem?_cons_zero, List.getElem?_cons_succ] at p0 p1 p2
  have R2 := Lib.hid h2
  have HFW := Lib.hid hfew
  clear hb h2 HB1 R1 C1 hfew
  cases bb
  · clear p0 p1 p2
    go_wp2_with fail
    refine (awake18_any _).mono ?_
    rintro e W3 ⟨rfl, hb⟩
    have HB3 := Lib.hid (HB2.out.trans (hb.mono HB2.out.size))
    go_wp2
    go_ret
    exact ⟨rfl, HB3.out⟩
  · obtain ⟨w1, w2, w3⟩ := HFW.out rfl
    clear HFW
    have C2 := Lib.hid (rcheck_any w.heap.size A bs c args regs W2 (HK.out.below HB2.out) HB2.out.size (by omega) (by omega))
    by_cases hv : eF args regs bs = 0
    · rw [hv] at C2
      have HVF : Hid (VF ⟨args, regs, bs⟩) := VF.of (f := ⟨args, regs, bs⟩) hv HWF.out
      clear hv
      go_wp2_with fail
      refine C2.out.mono ?_
      rintro e W3 ⟨rfl, hb⟩
      have HB3 := Lib.hid (HB2.out.trans (hb.mono HB2.out.size))
      have R3 := Lib.hid (R2.out.below hb R2.out.lt)
      clear hb HB2 R2 C2 p0 p1 p2
      have p0 := R3.out.cell 0; have p1 := R3.out.cell 1; have p2 := R3.out.cell 2
      simp only [List.getElem?_toArray, List.getElem?_cons_zero, List.getElem?_cons_succ] at p0 p1 p2
      have C3 := Lib.hid (rcopy_any w.heap.size A bs c args regs W3 (HK.out.below HB3.out) HB3.out.size (by omega) (by omega))
      go_wp2_with fail
      refine C3.out.mono ?_
      rintro e W4 ⟨v, vs, rfl, hn, hb⟩
      obtain ⟨Ac, cc, rfl, hc1, hc2, hcb⟩ := nest_blks hn
      have hb4 := hb.alloc hb.size (.cells #[.int .i64 args, .int .i64 regs, .slice Ac bs.length cc] 30)
      have hbo : Below W4.heap.size W4 (W4.alloc (.cells #[.int .i64 args, .int .i64 regs, .slice Ac bs.length cc] 30)) := (Below.refl _ _).alloc (Nat.le_refl _) _
      have HN4 := Lib.hid (hn.below hbo)
      have HBL4 := Lib.hid (HB3.out.trans (hb4.mono HB3.out.size))
      have R4 := Lib.hid (R3.out.below hb4 R3.out.lt)
      have X4 := Lib.hid (Row.new W4 30 #[.int .i64 args, .int .i64 regs, .slice Ac bs.length cc])
      have HCL := Lib.hid hc1
      have HSZ4 := Lib.hid hb.size
      have HLO : Hid (w.heap.size < W3.heap.size) := R3.out.lt
      have HQ4 : Hid (∀ (i : Nat) (u : Value) (g : Nat), vs[i]? = some u → u.ownBlock = some g → g < (W4.alloc (.cells #[.int .i64 args, .int .i64 regs, .slice Ac bs.length cc] 30)).heap.size) := fun i u g hu hg => by
        obtain ⟨x, _, hin⟩ := HN4.out.get hu
        exact (ownS_lt hin g hg).2
      clear hn hb hb4 hbo hcb hc1 hc2 C3 R3 p0 p1 p2 HB3
      go_upto_region 4 with fail
      generalize (W4.alloc (.cells #[.int .i64 args, .int .i64 regs, .slice Ac bs.length cc] 30)) = V4 at *
      have HX3 : Hid (W4.heap.size < V4.heap.size ∧ W3.heap.size ≤ V4.heap.size) := ⟨X4.out.lt, by have := X4.out.lt; have := HSZ4.out; omega⟩
      generalize W4.heap.size = x3 at *
      obtain ⟨A', c', hv', _, _, hbA⟩ := nest_blks HN4.out
      injection hv' with hv1 _ hv2
      subst hv1
      have ha5 := (Below.refl V4.heap.size V4).alloc (Nat.le_refl _) (.cells #[.slice none 0 0] 56)
      have HKS : Hid (KS w args regs A bs c W3.heap.size x3 V4.heap.size (.slice Ac bs.length cc) vs [] bs (V4.alloc (.cells #[.slice none 0 0] 56))) :=
        ⟨HBL4.out.trans (ha5.mono HBL4.out.size), R4.out.alloc _, (HK.out.below HBL4.out).below (ha5.mono HBL4.out.size), X4.out.alloc _, HN4.out.below ha5, ⟨_, _, Wri.new V4⟩, HLO.out, HQ4.out, HX3.out⟩
      have HWR := Lib.hid (Wri.new V4)
      have HBA := Lib.hid (hbA.below ha5)
      have HSZ : Hid (V4.heap.size + 1 ≤ (V4.alloc (.cells #[.slice none 0 0] 56)).heap.size) := by show _ ≤ _; simp
      have HNM : Hid (∀ W, Mods (From V4.heap.size) V4 W → NestV bshp W W3.heap.size (.slice Ac bs.length cc) vs bs) := fun W hm => HN4.out.mods hm fun k _ h2 h3 => by unfold From at h3; omega
      have HMA : Hid (Mods (From V4.heap.size) V4 (V4.alloc (.cells #[.slice none 0 0] 56))) := (Mods.refl _ _).alloc _
      clear ha5 hbA HN4 HBL4 R4 X4 HLO HQ4 hv2 HSZ4
      go_upto_region 5 with fail
      generalize (V4.alloc (.cells #[.slice none 0 0] 56)) = V5 at *
      generalize V4.heap.size = q at *
      have C5 := Lib.hid (pputf_any HWR.out (by decide) HSZ.out HVF.out HBA.out HCL.out)
      have x0 := HKS.out.own.cell 0; have x1 := HKS.out.own.cell 1; have x2 := HKS.out.own.cell 2
      simp only [List.getElem?_toArray, List.getElem?_cons_zero, List.getElem?_cons_succ] at x0 x1 x2
      go_wp2_with fail
      refine C5.out.mono ?_
      rintro e W6 ⟨rfl, hw6, hm6⟩
      have HK6 : Hid (KS w args regs A bs c W3.heap.size x3 q (.slice Ac bs.length cc) vs (encF' ⟨args, regs, bs⟩) bs W6) := by
        obtain ⟨blw, bf, see, own, nst, wr, lo, nq, xq⟩ := HKS.out
        have hbl : Below w.heap.size V5 W6 := hm6.below blw.size fun k hk => by unfold From at hk; omega
        obtain ⟨v6, hw6⟩ := hw6
        exact ⟨blw.trans hbl, bf.mods hm6 (fun e => by unfold From at e; omega), see.below hbl, own.mods hm6 (fun e => by unfold From at e; omega), HNM.out _ (HMA.out.trans hm6), ⟨_, _, hw6⟩, lo, nq, xq⟩
      clear hw6 hm6 C5 HKS HWR HBA HSZ HNM HMA x0 x1 x2
      have p0 := HK6.out.bf.cell 0; have p1 := HK6.out.bf.cell 1; have p2 := HK6.out.bf.cell 2
      have x0 := HK6.out.own.cell 0; have x1 := HK6.out.own.cell 1; have x2 := HK6.out.own.cell 2
      simp only [List.getElem?_toArray, List.getElem?_cons_zero, List.getElem?_cons_succ] at p0 p1 p2 x0 x1 x2
      have C6 : Hid (Calls Try.prog 12 #[.agg #[.int .i64 args, .int .i64 regs, .slice Ac bs.length cc], .agg #[.int .i64 args, .int .i64 regs, .slice A bs.length c]] W6 fun e w' => e = .returned (.bool true) ∧ Below W6.heap.size W6 w') := by
        obtain ⟨A', c', hv', _, _, hbA⟩ := nest_blks HK6.out.nst
        injection hv' with hv1
        subst hv1
        exact rsame7_any W6.heap.size Ac A bs cc c args regs W6 hbA (HK6.out.see.more HK6.out.blw.size) (Nat.le_refl _) (by omega) (by omega)
      go_wp2_with fail
      refine C6.out.mono ?_
      rintro e W7 ⟨rfl, hb⟩
      have HK7 := Lib.hid (HK6.out.next hb)
      clear hb C6 HK6 p0 p1 p2 x0 x1 x2
      go_upto_region 8 with fail
      go_wp2
      go_loopg [6] bs.length (fun g v6 wr => ∃ (i : Nat) (bs' : List Blk), i + g = bs.length ∧ v6 = .int .i64 i ∧ Hid (bs'.length = bs.length) ∧ Hid (codeN bs' = codeN bs) ∧ Hid (KS w args regs A bs c W3.heap.size x3 q (.slice Ac bs.length cc) vs (encF' ⟨args, regs, bs⟩) bs' wr))
      case atStart => exact ⟨0, bs, by omega, rfl, rfl, rfl, HK7.out⟩
      case round =>
        clear HK7
        obtain ⟨i, bs', hig, rfl, HBL, HCN, HKR⟩ := hrel
        have x2 := HKR.out.own.cell 2
        simp only [List.getElem?_toArray, List.getElem?_cons_zero, List.getElem?_cons_succ] at x2
        cases gk with
        | zero =>
          have hlt : ¬ (i : Int) < (bs.length : Int) := by omega
          have hle : (encF' ⟨args, regs, bs⟩).length ≤ 200000000 := HVF.out.len
          have KO : Hid (∀ W, KS w args regs A bs c W3.heap.size x3 q (.slice Ac bs.length cc) vs (encF' ⟨args, regs, bs⟩) bs' W → Calls Try.prog 24 #[.pointer (some ⟨q, 0, none⟩)] W fun e w' => ∃ A' c', e = .returned (.slice A' (encF' ⟨args, regs, bs⟩).length c') ∧ SE18 A' (encF' ⟨args, regs, bs⟩) w' ∧ KS w args regs A bs c W3.heap.size x3 q (.slice Ac bs.length cc) vs (encF' ⟨args, regs, bs⟩) bs' w') := fun W h => by
            obtain ⟨hi, u, hw⟩ := h.wr
            exact (out_any hw (by omega)).mono fun e w' ⟨A', c', he, ho, hb⟩ => ⟨A', c', he, ⟨_, Nat.le_refl _, Sees.of_own ho⟩, h.next hb⟩
          have hvf := HVF.out
          have KP : Hid (∀ W A', KS w args regs A bs c W3.heap.size x3 q (.slice Ac bs.length cc) vs (encF' ⟨args, regs, bs⟩) bs' W → SE18 A' (encF' ⟨args, regs, bs⟩) W → Calls Try.prog 25 #[.agg #[.int .i64 args, .int .i64 regs, .slice A bs.length c]] W fun e w' => ∃ A'' c'', e = .returned (.slice A'' (encF' ⟨args, regs, bs⟩).length c'') ∧ SE18 A'' (encF' ⟨args, regs, bs⟩) w' ∧ SE18 A' (encF' ⟨args, regs, bs⟩) w' ∧ KS w args regs A bs c W3.heap.size x3 q (.slice Ac bs.length cc) vs (encF' ⟨args, regs, bs⟩) bs' w') := fun W A' h h2 =>
            (rputf18_any w.heap.size A bs c args regs W h.see h.blw.size ⟨hvf.a.1, by have := hvf.a.2; dsimp only at this; omega⟩ ⟨hvf.r.1, by have := hvf.r.2; dsimp only at this; omega⟩ (by omega) (fun x hx => (hvf.v x hx).pb) (by omega)).mono fun e w' ⟨A'', c'', he, ho, hb⟩ => ⟨A'', c'', he, ⟨_, Nat.le_refl _, Sees.of_own ho⟩, h2.next hb, h.next hb⟩
          have KM : Hid (∀ W A' c' A'' c'', KS w args regs A bs c W3.heap.size x3 q (.slice Ac bs.length cc) vs (encF' ⟨args, regs, bs⟩) bs' W → SE18 A' (encF' ⟨args, regs, bs⟩) W → SE18 A'' (encF' ⟨args, regs, bs⟩) W → Calls Try.prog 23 #[.slice A' (encF' ⟨args, regs, bs⟩).length c', .slice A'' (encF' ⟨args, regs, bs⟩).length c''] W fun e w' => e = .returned (.bool true) ∧ KS w args regs A bs c W3.heap.size x3 q (.slice Ac bs.length cc) vs (encF' ⟨args, regs, bs⟩) bs' w') := fun W A' c' A'' c'' h ⟨B1, _, h1⟩ ⟨B2, _, h2⟩ =>
            (same_at (encF' ⟨args, regs, bs⟩) (encF' ⟨args, regs, bs⟩) true _ _ (B1 + B2) A' A'' c' c'' W (sameB_self _) rfl rfl (by unfold maxLen; omega) (by unfold maxLen; omega) (h1.more (by omega)) (h2.more (by omega))).mono fun e w' ⟨he, n, hb⟩ => ⟨he, hb ▸ h.next (below_drewN18 W n)⟩
          clear hle hvf
          generalize encF' ⟨args, regs, bs⟩ = L at *
          have hG := HKR.out
          clear HKR HBL HCN
          go_wp2_with fail
          clear x2
          have p0 := hG.bf.cell 0; have p1 := hG.bf.cell 1; have p2 := hG.bf.cell 2
          simp only [List.getElem?_toArray, List.getElem?_cons_zero, List.getElem?_cons_succ] at p0 p1 p2
          go_region_held3 (fun w' => w'.cell? ⟨w.heap.size, 0, none⟩ = some (.int .i64 args) ∧ w'.cell? ⟨w.heap.size, 1, none⟩ = some (.int .i64 regs) ∧ w'.cell? ⟨w.heap.size, 2, none⟩ = some (.slice A bs.length c)) (first | exact ⟨hG.bf.cell 0, hG.bf.cell 1, hG.bf.cell 2⟩ | exact ⟨(hG.next (below_drew18 _)).bf.cell 0, (hG.next (below_drew18 _)).bf.cell 1, (hG.next (below_drew18 _)).bf.cell 2⟩ | exact ⟨(hG.next (below_drewN18 _ _)).bf.cell 0, (hG.next (below_drewN18 _ _)).bf.cell 1, (hG.next (below_drewN18 _ _)).bf.cell 2⟩) (first
            | (go_at_call 24; go_must ((with_reducible refine (KO.out _ (by first | exact hG | exact hG.next (below_drew18 _) | exact hG.next (below_drewN18 _ _))).mono ?_); rintro e W8 ⟨A7, c7, rfl, hS7, hG⟩))
            | (go_at_call 25; go_must ((with_reducible refine (KP.out _ A7 (by first | exact hG | exact hG.next (below_drew18 _) | exact hG.next (below_drewN18 _ _)) (by first | exact hS7 | exact hS7.next (below_drew18 _) | exact hS7.next (below_drewN18 _ _))).mono ?_); rintro e W9 ⟨A8, c8, rfl, hS8, hS7, hG⟩))
            | (go_at_call 23; go_must ((with_reducible refine (KM.out _ A7 c7 A8 c8 (by first | exact hG | exact hG.next (below_drew18 _) | exact hG.next (below_drewN18 _ _)) (by first | exact hS7 | exact hS7.next (below_drew18 _) | exact hS7.next (below_drewN18 _ _)) (by first | exact hS8 | exact hS8.next (below_drew18 _) | exact hS8.next (below_drewN18 _ _))).mono ?_); rintro e W10 ⟨rfl, hG⟩)))
          go_wp2
          go_ret
          exact ⟨rfl, hG.blw⟩
        | succ g =>
          have hlt : (i : Int) < (bs.length : Int) := by omega
          have hin : i < bs.length := by omega
          have hi : i < bs'.length := by rw [HBL.out]; omega
          obtain ⟨M, hM⟩ : ∃ M, bs'[i].code.length = M := ⟨_, rfl⟩
          have HMI : Hid (∃ h : i < bs'.length, bs'[i].code.length = M) := ⟨hi, hM⟩
          have hMM : M ≤ 300 := by
            have h1 := codeN_mem18 (List.getElem_mem hi)
            have h2 := HCN.out
            omega
          clear hi hM
          go_upto_region 11 with fail
          clear x2
          obtain ⟨wo, hwo⟩ : ∃ z, z = wr := ⟨_, rfl⟩
          subst hwo
          go_wp2
          go_loopg [7] M (fun g2 v7 wx => ∃ (k : Nat) (bs2 : List Blk), k + g2 = M ∧ v7 = .int .i64 k ∧ Hid (bs2.length = bs.length) ∧ Hid (codeN bs2 = codeN bs) ∧ Hid (∃ h : i < bs2.length, bs2[i].code.length = M) ∧ Hid (KS w args regs A bs c W3.heap.size x3 q (.slice Ac bs.length cc) vs (encF' ⟨args, regs, bs⟩) bs2 wx))
          case atStart => exact ⟨0, bs', by omega, rfl, HBL.out, HCN.out, HMI.out, HKR.out⟩
          case round =>
            clear HKR HBL HCN HMI
            obtain ⟨k, bs2, hkg, rfl, HBL, HCN, HMI, HKR⟩ := hrel
            obtain ⟨hi, hMe⟩ := HMI.out
            obtain ⟨b, o, cap, A1, c1, hv, hb, hcell, hvs, hown⟩ := nest_at HKR.out.nst hi
            have x2 := HKR.out.own.cell 2
            simp only [List.getElem?_toArray, List.getElem?_cons_zero, List.getElem?_cons_succ] at x2
            injection hv with hv1 hvn hv2
            subst hv1
            clear hvn hv2
            rw [hMe] at hcell hvs hown
            cases gk with
            | zero =>
              have hk : ¬ (k : Int) < (M : Int) := by omega
              clear hMe hvs hown
              go_wp2_with fail
              go_roundg g
              case measure => omega
              case rel => exact ⟨i + 1, bs2, by omega, by go_num, HBL.out, HCN.out, HKR.out⟩
            | succ g2 =>
              have hk : (k : Int) < (M : Int) := by omega
              have hkM : k < M := by omega
              obtain ⟨gb, rfl⟩ : ∃ gb, A1 = some ⟨gb, 0, none⟩ := by
                rcases hown.2 with ⟨e, _⟩ | ⟨g', cap', cur, hv', _⟩
                · injection e with _ e2 _
                  omega
                · injection hv' with e1 _ _
                  exact ⟨g', e1⟩
              have hkc : k < bs2[i].code.length := by rw [hMe]; exact hkM
              have HST := Lib.hid (HKR.out.store hi hkc hvs 0)
              have hgc := hown.cells (g := gb) rfl
              have hfr : wr.frozen? ⟨gb, k * 5, none⟩ = false := by
                rcases hown.2 with ⟨e, _⟩ | ⟨g', cap', cur, hv', _, hh, _⟩
                · cases e
                · injection hv' with e1 _ _
                  injection e1 with e1
                  injection e1 with e1 _ _
                  subst e1
                  exact Row.frozen (T := 64) (cs := cur) hh _
              have hzc : wr.cell? ⟨gb, k * 5, none⟩ = some (.int .i64 (bs2[i].code[k]'hkc).op) := by
                have h5 := flat_get In.cells 5 (fun _ => rfl) bs2[i].code k _ (List.getElem?_eq_getElem hkc) 0 _ rfl
                have := hgc _ _ h5
                simpa [Addr.add_lit] using this
              have HL2 : Hid ((bs2.set i { bs2[i] with code := bs2[i].code.set k { bs2[i].code[k] with op := 0 } }).length = bs.length) := by show _ = _; rw [List.length_set]; exact HBL.out
              have HC2 : Hid (codeN (bs2.set i { bs2[i] with code := bs2[i].code.set k { bs2[i].code[k] with op := 0 } }) = codeN bs) := by show _ = _; rw [codeN_set bs2 i hi (by simp)]; exact HCN.out
              have HM2 : Hid (∃ h : i < (bs2.set i { bs2[i] with code := bs2[i].code.set k { bs2[i].code[k] with op := 0 } }).length, (bs2.set i { bs2[i] with code := bs2[i].code.set k { bs2[i].code[k] with op := 0 } })[i].code.length = M) := ⟨by rw [List.length_set]; exact hi, by simp [hMe]⟩
              generalize bs2.set i { bs2[i] with code := bs2[i].code.set k { bs2[i].code[k] with op := 0 } } = bs3 at *
              generalize (bs2[i].code[k]'hkc).op = op0 at *
              clear hkc hMe hvs hown hgc HBL HCN HMI HKR
              go_wp2_with fail
              go_roundg g2
              case measure => omega
              case rel => exact ⟨k + 1, bs3, by omega, by go_num, HL2.out, HC2.out, HM2.out, HST.out⟩
    · have d1 : (eF args regs bs != 0) = true := by simp [hv]
      clear hv
      go_wp2_with fail
      refine C2.out.mono ?_
      rintro e W3 ⟨rfl, hb⟩
      have HB3 := Lib.hid (HB2.out.trans (hb.mono HB2.out.size))
      clear hb HB2 R2 C2 p0 p1 p2
      go_wp2_with fail
      refine (awake18_any _).mono ?_
      rintro e W4 ⟨rfl, hb⟩
      go_wp2
      go_ret
      exact ⟨rfl, HB3.out.trans (hb.mono HB3.out.size)⟩

end Go.Proofs.Ytmmdhhjpbolkhaa
