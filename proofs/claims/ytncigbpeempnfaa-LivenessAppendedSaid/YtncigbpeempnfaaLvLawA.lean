/-
  The walk of the statement on a block that is appended.
-/
import Derived.Test.YtncigbpeempnfaaLvHead
import Derived.Test.YtncigbpeempnfaaRunExt
namespace Go.Proofs.Ytncigbpeempnfaa
open Go.RowKit
set_option linter.unusedVariables false

/-- The function and the block in their boxes. -/
structure AX (w : World) (args regs : Int) (A : Option Addr) (bs : List Blk) (c : Nat) (y : Blk) (A1 : Option Addr) (c1 : Nat) (W : World) : Prop where
  lw : LF23 w w.heap.size args regs A bs c W
  bb : Row W (w.heap.size + 1) 34 #[.slice A1 y.code.length c1, .int .i64 y.term.kind, .int .i64 y.term.a, .int .i64 y.term.to, .int .i64 y.term.el]
  ib : InsAt W w.heap.size A1 y.code

theorem AX.next {w W W' : World} {args regs : Int} {A : Option Addr} {bs : List Blk} {c : Nat} {y : Blk} {A1 : Option Addr} {c1 : Nat} (h : AX w args regs A bs c y A1 c1 W) (hb : Below W.heap.size W W') : AX w args regs A bs c y A1 c1 W' :=
  ⟨h.lw.next hb, h.bb.below hb h.bb.lt, h.ib.below (hb.mono h.lw.below.size)⟩

theorem lvB_app {bs : List Blk} {y : Blk} {N : Nat} (hF : OkF N bs) (v : Int) {i : Nat} (hi : i < bs.length) : lvB (bs ++ [y]) v i = lvB bs v i := by
  rw [Bool.eq_iff_iff, lvB_iff, lvB_iff]
  exact lv_app (regs := N) hF.tm hi

theorem inL_app {bs : List Blk} {y : Blk} {N : Nat} (hF : OkF N bs) : fL23 (inL (bs ++ [y]) N) bs.length = fL23 (inL bs N) bs.length :=
  fL_congr fun i hi => regL_congr N fun v _ _ => lvB_app hF v hi

theorem outL_app {bs : List Blk} {y : Blk} {N : Nat} (hF : OkF N bs) : fL23 (outL (bs ++ [y]) N) bs.length = fL23 (outL bs N) bs.length :=
  fL_congr fun i hi => regL_congr N fun v _ _ => by
    have hb : blkAt (bs ++ [y]) i = blkAt bs i := by
      unfold blkAt List.getD
      rw [List.getElem?_append_left hi]
    have hs := succs_lt (hF.tm _ (blkAt_mem hi))
    unfold lvO
    rw [hb]
    rw [Bool.eq_iff_iff, List.any_eq_true, List.any_eq_true]
    constructor
    · rintro ⟨s, h1, h2⟩
      have h3 := hs s h1
      rw [lvB_app hF v (show s.toNat < bs.length by omega)] at h2
      exact ⟨s, h1, h2⟩
    · rintro ⟨s, h1, h2⟩
      have h3 := hs s h1
      exact ⟨s, h1, by rw [lvB_app hF v (show s.toNat < bs.length by omega)]; exact h2⟩

theorem SeesII.less {w : World} {B n : Nat} {A : Option Addr} {F : Nat → List Int} (h : SeesII w B A (fL23 F (n + 1))) : SeesII w B A (fL23 F n) := fun hn => by
  have h0 : fL23 F (n + 1) ≠ [] := fun e => by
    have := congrArg List.length e
    rw [fL_len] at this
    cases this
  obtain ⟨b, o, e, hb, hc⟩ := h h0
  refine ⟨b, o, e, hb, fun i x hx => hc i x ?_⟩
  have hi : i < n := by have := (List.getElem?_eq_some_iff.1 hx).1; rwa [fL_len] at this
  rw [fL_get F hi] at hx
  rw [fL_get F (by omega)]
  exact hx

set_option maxRecDepth 100000 in
set_option maxHeartbeats 8000000 in
theorem LivenessAppended_walk (a0 : Array Value) (a1 : Array Value) (w : World) (w0 : IsFn w a0) (w1 : IsBlk w a1) :
    Calls Try.prog 7 #[.agg a0, .agg a1] w fun e w' => e = .returned (.bool true) ∧ Below w.heap.size w w' := by
  obtain ⟨args, regs, A, bs, c, rfl, _, _, hbl, hbm, hs, hw⟩ := w0
  obtain ⟨y, A1, c1, rfl, hyc, hym, hyi, hyw⟩ := w1
  have HYW := Lib.hid hyw
  have hb0 := ((Below.refl w.heap.size w).alloc (Nat.le_refl _) (.cells #[.int .i64 args, .int .i64 regs, .slice A bs.length c] 24)).alloc (by simp) (.cells #[.slice A1 y.code.length c1, .int .i64 y.term.kind, .int .i64 y.term.a, .int .i64 y.term.to, .int .i64 y.term.el] 34)
  have H0 : Hid (AX w args regs A bs c y A1 c1 _) := ⟨⟨hb0, (Row.new _ _ _).alloc _, hs.below hb0⟩, Row.new' (p := w.heap.size + 1) (by simp) _ _, hyi.below hb0⟩
  clear hb0 hyi hyw
  have hbl2 : bs.length ≤ maxLen := Nat.le_trans hbl hbm
  have HWF := Lib.hid hw
  clear hbl hbm hs hw
  go_enter Try.func7, Try.ntmps7
  go_wp2_with fail
  refine (awake23_any _).mono ?_
  rintro e W1 ⟨rfl, hb⟩
  have h1 := H0.out.next hb
  have H1 := Lib.hid h1
  have d0 := h1.lw.f.k0; have d1 := h1.lw.f.k1; have d2 := h1.lw.f.k2
  clear hb H0 h1
  go_wp2_with fail
  refine (rfew_any w.heap.size A bs c args regs _ H1.out.lw.b H1.out.lw.below.size hbl2).mono ?_
  rintro e W2 ⟨⟨b, rfl, hf⟩, hb⟩
  have h2 := H1.out.next hb
  have H2 := Lib.hid h2
  clear hb H1 d0 d1 d2 hbl2
  have d0 := h2.lw.f.k0; have d1 := h2.lw.f.k1; have d2 := h2.lw.f.k2
  clear h2
  cases b
  · clear hf d0 d1 d2
    go_wp2_with fail
    refine (awake23_any _).mono ?_
    rintro e W3 ⟨rfl, hb⟩
    have HB3 := Lib.hid (H2.out.lw.next hb).below
    clear hb H2
    go_wp2_with fail
    go_ret
    exact ⟨rfl, HB3.out⟩
  · have HF := Lib.hid (hf rfl)
    clear hf
    have C2 := Lib.hid (rcheck_any w.heap.size A bs c args regs W2 H2.out.lw.b H2.out.lw.below.size (by have := HF.out.1; omega) (by have := HF.out.2.2; omega))
    obtain ⟨v, hv⟩ : ∃ z, eF args regs bs = z := ⟨_, rfl⟩
    rw [hv] at C2
    have HE := Lib.hid hv
    clear hv
    by_cases hv : v = 0
    · subst hv
      obtain ⟨N, hN, hN60, hOK, hFN⟩ := fn_of HF.out HE.out HWF.out
      subst hN
      have hm40 : bs.length ≤ 40 := HF.out.1
      have hc300 : codeN bs ≤ 300 := HF.out.2.2
      have HOK := Lib.hid hOK
      have HFN := Lib.hid hFN
      clear hOK hFN HF HE
      have e00 : ((0 : Int) != 0) = false := rfl
      obtain ⟨hOK2, hwf2⟩ : OkF N bs ∧ True := ⟨HOK.out, trivial⟩
      clear hOK2 hwf2
      go_wp2_with fail
      refine C2.out.mono ?_
      rintro e W3 ⟨rfl, hb⟩
      have H3 := Lib.hid (H2.out.next hb)
      clear hb C2 d0 d1 d2 H2
      have d0 := H3.out.lw.f.k0; have d1 := H3.out.lw.f.k1; have d2 := H3.out.lw.f.k2
      have CC := Lib.hid (rcopy_any w.heap.size A bs c args N W3 H3.out.lw.b H3.out.lw.below.size (by omega) (by omega))
      go_wp2_with fail
      refine CC.out.mono ?_
      rintro e W4 ⟨v, vs, rfl, hn3, hb⟩
      obtain ⟨Av, cv, rfl, _, _⟩ := ownS_slice hn3.outer
      have hvl := hn3.len
      have hn3' : NestV bshp W4 W3.heap.size (.slice Av bs.length cv) vs bs := by rw [← hvl]; exact hn3
      rw [hvl]
      have hbx := Row.new W4 24 #[.int .i64 args, .int .i64 (N : Int), .slice Av bs.length cv]
      have hba := (Below.refl W4.heap.size W4).alloc (Nat.le_refl _) (.cells #[.int .i64 args, .int .i64 (N : Int), .slice Av bs.length cv] 24)
      have HN5 := Lib.hid (hn3'.below hba)
      have HL5 := Lib.hid ((H3.out.next hb).next hba)
      have HB5 := Lib.hid hbx
      have hw23 : W3.heap.size ≤ W4.heap.size := hb.size
      have hw2 : w.heap.size ≤ W3.heap.size := H3.out.lw.below.size
      have hw2b : w.heap.size + 1 < W3.heap.size := H3.out.bb.lt
      clear hn3 hn3' hb hbx hba CC H3 d0 d1 d2 hvl
      go_upto_region 4 with fail
      generalize W4.alloc (.cells #[.int .i64 args, .int .i64 (N : Int), .slice Av bs.length cv] 24) = W5 at *
      generalize W4.heap.size = z at *
      obtain ⟨i1, hi1, hy0, hy1, hy2⟩ := info_parts infoBlk
      have g2 := HB5.out.k2
      have b0 := HL5.out.bb.k0; have b1 := HL5.out.bb.k1; have b2 := HL5.out.bb.k2; have b3 := HL5.out.bb.k3; have b4 := HL5.out.bb.k4
      have hz5 : z < W5.heap.size := HB5.out.lt
      have hou := HN5.out.outer
      rw [HN5.out.len] at hou
      have HOU := Lib.hid (((Mods.refl No W5).alloc (.cells #[.slice A1 y.code.length c1, .int .i64 y.term.kind, .int .i64 y.term.a, .int .i64 y.term.to, .int .i64 y.term.el] 34)).ownS hou fun _ _ h => h)
      have HNW := Lib.hid (Row.new W5 34 #[.slice A1 y.code.length c1, .int .i64 y.term.kind, .int .i64 y.term.a, .int .i64 y.term.to, .int .i64 y.term.el])
      clear hou
      go_wp2_with (at_builtin; refine wpList_append_own _ rfl (.tmp 27) (.tmp 29) 22 rfl W3.heap.size 34 i1 _ 5 56 Try.underlying22 hi1 hy0 hy1 hy2 rfl (by decide) (.slice Av bs.length cv) bs.length _ rfl HOU.out ⟨W5.heap.size, 0, none⟩ 1 1 (bshp.oc (.slice A1 y.code.length c1) y) rfl rfl ?a1 (oc_one y A1 _ c1) ?a2 ?a3 ?a4 ?_)
      case a1 =>
        intro j u hu
        rw [Addr.add_lit, Nat.zero_add]
        have := HNW.out.cell j
        rw [this]
        simpa [bshp] using hu
      case a2 => unfold maxLen; omega
      case a3 => omega
      case a4 => simp; omega
      intro v6 W6 ho6 hg6 _
      obtain ⟨bs', hbs'⟩ : ∃ bs', bs' = bs ++ [y] := ⟨_, rfl⟩
      obtain ⟨hz6, hbl7, A', c', rfl, hA1, hA2, hblk⟩ := blks_snoc HN5.out _ hg6 hbs' ho6 (HL5.out.ib.more hw2) hyc hym HB5.out hw23 ((Mods.refl (Is z) W6).put 2 v6)
      have HBK7 := Lib.hid hblk
      have HB7 : Hid (Row (W6.setCell ⟨z, 2, none⟩ (.slice A' bs'.length c')) z 24 #[.int .i64 args, .int .i64 (N : Int), .slice A' bs'.length c']) := hz6.put 2 (.slice A' bs'.length c')
      have HL7 : Hid (LF23 w w.heap.size args N A bs c (W6.setCell ⟨z, 2, none⟩ (.slice A' bs'.length c'))) :=
        ⟨HL5.out.lw.below.trans (hbl7.mono hw2), HL5.out.lw.f.below hbl7 (by omega), HL5.out.lw.b.below (hbl7.mono hw2)⟩
      have g2 := hz6.k2; have q2 := hz6.frozen 2
      have HBS := Lib.hid hbs'
      have hm10 : bs'.length ≤ maxLen := Nat.le_trans hA1 hA2
      have hbs1 : bs'.length = bs.length + 1 := by rw [hbs']; simp
      have HBN := Lib.hid hbs1
      clear ho6 hg6 hz6 hbl7 hblk HN5 HL5 HB5 HOU HNW b0 b1 b2 b3 b4 hbs' hbs1 hA1 hA2
      go_upto_region 5 with fail
      clear g2 q2
      generalize W6.setCell ⟨z, 2, none⟩ (.slice A' bs'.length c') = W7 at *
      have g0 := HB7.out.k0; have g1 := HB7.out.k1; have g2 := HB7.out.k2
      have hz7 : z < W7.heap.size := HB7.out.lt
      go_wp2_with fail
      refine (rfew_any W7.heap.size A' bs' c' args N W7 HBK7.out (Nat.le_refl _) hm10).mono ?_
      rintro e W8 ⟨⟨b, rfl, hf⟩, hb⟩
      have HL8 := Lib.hid (HL7.out.next hb)
      have HB8 := Lib.hid (HB7.out.below hb HB7.out.lt)
      have HBK8 := Lib.hid ((HBK7.out.below hb).more hb.size)
      clear hb HL7 HB7 HBK7 g0 g1 g2 hz7
      have g0 := HB8.out.k0; have g1 := HB8.out.k1; have g2 := HB8.out.k2
      cases b
      · clear hf
        go_wp2_with fail
        go_ret
        exact ⟨rfl, HL8.out.below⟩
      · have HF2 := Lib.hid (hf rfl)
        clear hf
        have C9 := Lib.hid (rcheck_any W8.heap.size A' bs' c' args N W8 HBK8.out (Nat.le_refl _) (by have := HF2.out.1; omega) (by have := HF2.out.2.2; omega))
        have HEO := Lib.hid fun h => fn_of (args := args) (regs := (N : Int)) (bs := bs') HF2.out h (fun z hz => by
          rw [HBS.out] at hz
          rcases List.mem_append.1 hz with h1 | h1
          · exact HWF.out z h1
          · rw [List.mem_singleton.1 h1]; exact HYW.out)
        obtain ⟨v, hv⟩ : ∃ v, eF args (N : Int) bs' = v := ⟨_, rfl⟩
        rw [hv] at C9 HEO
        clear hv
        go_wp2_with fail
        refine C9.out.mono ?_
        rintro e W9 ⟨rfl, hb⟩
        have HL9 := Lib.hid (HL8.out.next hb)
        have HB9 := Lib.hid (HB8.out.below hb HB8.out.lt)
        have HBK9 := Lib.hid ((HBK8.out.below hb).more hb.size)
        clear hb HL8 HB8 HBK8 g0 g1 g2 C9
        by_cases hv0 : v = 0
        · subst hv0
          obtain ⟨N', hN', _, _, hF'⟩ := HEO.out rfl
          obtain rfl : N' = N := by omega
          have HFN' := Lib.hid hF'
          clear hF' hN' HEO
          have hF2 := HF2.out.1
          have hle : bs.length ≤ bs'.length := by have := HBN.out; omega
          have e1 : ((bs.length : Int) == (bs.length : Int)) = true := by simp
          have e2 : ((bs'.length : Int) == (bs.length : Int) + 1) = true := by rw [HBN.out]; simp
          have hne : (bs'.length : Int) ≤ 100000 := by omega
          have hFI : Hid (fL23 (inL bs' N') bs.length = fL23 (inL bs N') bs.length) := by rw [Hid, HBS.out]; exact inL_app HOK.out
          have hFO : Hid (fL23 (outL bs' N') bs.length = fL23 (outL bs N') bs.length) := by rw [Hid, HBS.out]; exact outL_app HOK.out
          have d0 := HL9.out.f.k0; have d1 := HL9.out.f.k1; have d2 := HL9.out.f.k2
          have I1 := Lib.hid (pin_any args N' A bs c N' W9 HL9.out.blks HFN.out)
          go_upto_region 8 with (go_at_call 17; go_must (refine (I1.out).mono ?_); rintro e W10 h4; obtain ⟨Ax, rfl, h5, h6⟩ := h4.see; have HL10 := Lib.hid (HL9.out.next h6); have HB10 := Lib.hid (HB9.out.below h6 HB9.out.lt); have HBK10 := Lib.hid ((HBK9.out.below h6).more h6.size); have HX10 := Lib.hid h5; clear h4 h5 h6)
          clear I1 HL9 HB9 HBK9 d0 d1 d2
          have g0 := HB10.out.k0; have g1 := HB10.out.k1; have g2 := HB10.out.k2
          have I2 := Lib.hid (pin_any args N' A' bs' c' N' W10 HBK10.out HFN'.out)
          go_upto_region 9 with (go_at_call 17; go_must (refine (I2.out).mono ?_); rintro e W11 h4; obtain ⟨Ay, rfl, h5, h6⟩ := h4.see; have HL11 := Lib.hid (HL10.out.next h6); have HB11 := Lib.hid (HB10.out.below h6 HB10.out.lt); have HBK11 := Lib.hid ((HBK10.out.below h6).more h6.size); have HX11 := Lib.hid ((HX10.out.below h6).more h6.size); have HY11 := Lib.hid h5; clear h4 h5 h6)
          clear I2 HL10 HB10 HBK10 HX10 g0 g1 g2
          have d0 := HL11.out.f.k0; have d1 := HL11.out.f.k1; have d2 := HL11.out.f.k2
          have I3 := Lib.hid (pout_any args N' A bs c N' W11 HL11.out.blks HFN.out)
          go_upto_region 10 with (go_at_call 19; go_must (refine (I3.out).mono ?_); rintro e W12 h4; obtain ⟨Ap, rfl, h5, h6⟩ := h4.see; have HL12 := Lib.hid (HL11.out.next h6); have HB12 := Lib.hid (HB11.out.below h6 HB11.out.lt); have HBK12 := Lib.hid ((HBK11.out.below h6).more h6.size); have HX12 := Lib.hid ((HX11.out.below h6).more h6.size); have HY12 := Lib.hid ((HY11.out.below h6).more h6.size); have HP12 := Lib.hid h5; clear h4 h5 h6)
          clear I3 HL11 HB11 HBK11 HX11 HY11 d0 d1 d2
          have g0 := HB12.out.k0; have g1 := HB12.out.k1; have g2 := HB12.out.k2
          have I4 := Lib.hid (pout_any args N' A' bs' c' N' W12 HBK12.out HFN'.out)
          go_upto_region 11 with (go_at_call 19; go_must (refine (I4.out).mono ?_); rintro e W13 h4; obtain ⟨Aq, rfl, h5, h6⟩ := h4.see; have HL13 := Lib.hid (HL12.out.next h6); have HX13 := Lib.hid ((HX12.out.below h6).more h6.size); have HY13 := Lib.hid ((HY12.out.below h6).more h6.size); have HP13 := Lib.hid ((HP12.out.below h6).more h6.size); have HQ13 := Lib.hid h5; clear h4 h5 h6)
          clear I4 HL12 HB12 HBK12 HX12 HY12 HP12 g0 g1 g2
          have d0 := HL13.out.f.k0; have d1 := HL13.out.f.k1; have d2 := HL13.out.f.k2
          obtain ⟨yb, yo, rfl⟩ : ∃ yb yo, Ay = some ⟨yb, yo, none⟩ := by
            obtain ⟨b, o, _, _, e, _⟩ := HY13.out.fl (i := 0) (by rw [HBN.out]; omega)
            exact ⟨b, o, e⟩
          obtain ⟨qb, qo, rfl⟩ : ∃ yb yo, Aq = some ⟨yb, yo, none⟩ := by
            obtain ⟨b, o, _, _, e, _⟩ := HQ13.out.fl (i := 0) (by rw [HBN.out]; omega)
            exact ⟨b, o, e⟩
          have hY : Hid (SeesII W13 W13.heap.size (some ⟨yb, yo, none⟩) (fL23 (inL bs N') bs.length)) := by
            have h := HY13.out
            rw [HBN.out] at h
            have := h.less
            rwa [hFI.out] at this
          have hQ : Hid (SeesII W13 W13.heap.size (some ⟨qb, qo, none⟩) (fL23 (outL bs N') bs.length)) := by
            have h := HQ13.out
            rw [HBN.out] at h
            have := h.less
            rwa [hFO.out] at this
          have hx1 : (fL23 (inL bs N') bs.length).length = bs.length := fL_len _ _
          have hx2 : (fL23 (outL bs N') bs.length).length = bs.length := fL_len _ _
          have S1 := Lib.hid (fun c2 : Nat => same_at23 W13.heap.size _ _ bs.length bs.length bs.length c2 true hx1 hx1 HX13.out hY.out (by omega) (by omega) (by simp))
          have S2 := Lib.hid (fun (W : World) (hk : ∃ k, W13.drewN k = W) (c2 : Nat) => same_at23 (W := W) W13.heap.size _ _ bs.length bs.length bs.length c2 true hx2 hx2 (by obtain ⟨k, rfl⟩ := hk; exact HP13.out.keep fun _ _ => rfl) (by obtain ⟨k, rfl⟩ := hk; exact hQ.out.keep fun _ _ => rfl) (by omega) (by omega) (by simp))
          clear hx1 hx2 HX13 HY13 HP13 HQ13 hY hQ hFI hFO
          go_wp2_with (first
            | (go_at_call 16; with_reducible refine (S1.out _).mono ?_; rintro e W14 ⟨rfl, hd⟩; have HD := Lib.hid hd; clear hd)
            | (go_at_call 16; with_reducible refine (S2.out _ HD.out _).mono ?_; rintro e W15 ⟨rfl, hd⟩; have HD2 := Lib.hid hd; clear hd))
          go_ret
          exact ⟨rfl, HL13.out.below.trans ((blw_drewN' HD.out).trans ((blw_drewN' HD2.out).mono (blw_drewN' HD.out).size) |>.mono HL13.out.below.size)⟩
        · have e0 : (v != 0) = true := by simp [hv0]
          clear HEO hv0
          go_wp2_with fail
          go_ret
          exact ⟨rfl, HL9.out.below⟩
    · have hv0 : (v != 0) = true := by simp [hv]
      clear hv
      go_wp2_with fail
      refine C2.out.mono ?_
      rintro e W3 ⟨rfl, hb⟩
      have H3 := Lib.hid (H2.out.lw.next hb)
      clear hb C2 d0 d1 d2
      go_wp2_with fail
      refine (awake23_any _).mono ?_
      rintro e W4 ⟨rfl, hb⟩
      have HB4 := Lib.hid (H3.out.next hb).below
      clear hb H3 H2
      go_wp2_with fail
      go_ret
      exact ⟨rfl, HB4.out⟩

end Go.Proofs.Ytncigbpeempnfaa
