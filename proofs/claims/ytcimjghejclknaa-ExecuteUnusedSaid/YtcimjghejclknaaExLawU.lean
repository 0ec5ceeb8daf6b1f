/-
  The walk of the statement that more registers, more slots and one more block do not change a run.
-/
import Derived.Test.YtcimjghejclknaaExLawM
import Derived.Test.YtcimjghejclknaaExExt
namespace Go.Proofs.Ytcimjghejclknaa
open Go.RowKit
set_option linter.unusedVariables false
set_option linter.unusedSimpArgs false

/-- What this statement carries: the two boxes, the function's blocks, the arguments, the block's instructions. -/
structure UX (w : World) (args regs slots : Int) (BA : Option Addr) (bs : List MBlk) (c : Nat) (AA : Option Addr) (l : List Int) (y : MBlk) (A1 : Option Addr) (c1 : Nat) (W : World) : Prop where
  below : Below w.heap.size w W
  f : Row W w.heap.size 24 #[.int .i64 args, .int .i64 regs, .int .i64 slots, .slice BA bs.length c]
  b : MBlksAt W w.heap.size BA bs
  a : Sees W w.heap.size AA (ints l)
  bb : Row W (w.heap.size + 1) 50 #[.slice A1 y.code.length c1, .int .i64 y.term.kind, .int .i64 y.term.a, .int .i64 y.term.to, .int .i64 y.term.el]
  ib : MisAt W w.heap.size A1 y.code
section
variable {w W W' : World} {args regs slots : Int} {BA : Option Addr} {bs : List MBlk} {c : Nat} {AA : Option Addr} {l : List Int} {y : MBlk} {A1 : Option Addr} {c1 : Nat}
theorem UX.next (h : UX w args regs slots BA bs c AA l y A1 c1 W) (hb : Below W.heap.size W W') : UX w args regs slots BA bs c AA l y A1 c1 W' :=
  ⟨h.below.trans (hb.mono h.below.size), h.f.below hb h.f.lt, h.b.below (hb.mono h.below.size), h.a.below (hb.mono h.below.size), h.bb.below hb h.bb.lt, h.ib.below (hb.mono h.below.size)⟩
theorem UX.lw (h : UX w args regs slots BA bs c AA l y A1 c1 W) : XLW w args regs slots BA bs c AA l w.heap.size W := ⟨h.below, h.f, h.b, h.a⟩
end

set_option maxRecDepth 100000 in
set_option maxHeartbeats 16000000 in
theorem ExecuteUnused_walk (a0 : Array Value) (a1 : Option Addr) (len1 cap1 : Nat) (z1 : List Int) (a2 : Int) (a3 : Array Value) (a4 : Int) (w : World) (w0 : IsMFn w a0) (w1 : IsRow .i64 w a1 len1 cap1 z1) (w2 : (Lit.int .u8 a2).wf = true) (w3 : IsMBlk w a3) (w4 : (Lit.int .u8 a4).wf = true) :
    Calls Try.prog 7 #[.agg a0, .slice a1 len1 cap1, .int .u8 a2, .agg a3, .int .u8 a4] w fun e w' => e = .returned (.bool true) ∧ Below w.heap.size w w' := by
  obtain ⟨args, regs, slots, BA, bs, c, rfl, hwa, hwr, hws, hbl, hbm, hbs, hbw⟩ := w0
  obtain ⟨l, hll, hli, hls, hlc, hcm⟩ := w1.ints
  obtain ⟨y, A1, c1, rfl, hyc, hym, hyi, hyw⟩ := w3
  have hu2 := u8_of_wf w2
  have hu4 := u8_of_wf w4
  obtain ⟨f2, rfl⟩ := Int.eq_ofNat_of_zero_le hu2.1
  obtain ⟨k4, rfl⟩ := Int.eq_ofNat_of_zero_le hu4.1
  have hf2 : f2 ≤ 255 := by omega
  have hk4 : k4 ≤ 255 := by omega
  clear w2 w4 hu2 hu4
  have hb0 := ((Below.refl w.heap.size w).alloc (Nat.le_refl _) (.cells #[.int .i64 args, .int .i64 regs, .int .i64 slots, .slice BA bs.length c] 24)).alloc (by simp) (.cells #[.slice A1 y.code.length c1, .int .i64 y.term.kind, .int .i64 y.term.a, .int .i64 y.term.to, .int .i64 y.term.el] 50)
  have hL0 : UX w args regs slots BA bs c a1 l y A1 c1 ((w.alloc (.cells #[.int .i64 args, .int .i64 regs, .int .i64 slots, .slice BA bs.length c] 24)).alloc (.cells #[.slice A1 y.code.length c1, .int .i64 y.term.kind, .int .i64 y.term.a, .int .i64 y.term.to, .int .i64 y.term.el] 50)) := ⟨hb0, (Row.new _ _ _).alloc _, hbs.below hb0, hls.below hb0, Row.new' (p := w.heap.size + 1) (by simp) _ _, hyi.below hb0⟩
  have hbl2 : bs.length ≤ maxLen := Nat.le_trans hbl hbm
  have hnm : len1 ≤ maxLen := Nat.le_trans hlc hcm
  have HLI := Lib.hid hli
  have HBW := Lib.hid hbw
  have HLL := Lib.hid hll
  have HYW := Lib.hid hyw
  have hnm2 : len1 ≤ 9223372036854775807 := by unfold maxLen at hnm; omega
  clear hb0 hls hbs w1 hwa hwr hws hbl hbm hlc hcm hli hbw hll hyi hyw
  go_enter Try.func7, Try.ntmps7
  go_wp2_with fail
  refine (xawake_any _).mono ?_
  rintro e W1 ⟨rfl, hb⟩
  have hL1 := hL0.next hb
  clear hb hL0
  have d0 := hL1.f.cell 0; have d1 := hL1.f.cell 1; have d2 := hL1.f.cell 2; have d3 := hL1.f.cell 3
  simp only [List.getElem?_toArray, List.getElem?_cons_zero, List.getElem?_cons_succ] at d0 d1 d2 d3
  have HL1 := Lib.hid hL1
  clear hL1
  go_wp2_with fail
  refine (xright_any w.heap.size BA a1 bs c len1 cap1 args regs slots 0 W1 HL1.out.b HL1.out.below.size hbl2 hnm).mono ?_
  rintro e W2 ⟨⟨b, rfl, hf⟩, hb⟩
  have hL2 := HL1.out.next hb
  have d0 := hL2.f.cell 0; have d1 := hL2.f.cell 1; have d2 := hL2.f.cell 2; have d3 := hL2.f.cell 3
  simp only [List.getElem?_toArray, List.getElem?_cons_zero, List.getElem?_cons_succ] at d0 d1 d2 d3
  clear hb HL1 hbl2
  cases b
  · clear hf
    go_wp2_with fail
    refine (xawake_any _).mono ?_
    rintro e W3 ⟨rfl, hb⟩
    have HB3 := Lib.hid (hL2.next hb).below
    clear hb hL2 d0 d1 d2 d3
    go_wp2
    go_ret
    exact ⟨rfl, HB3.out⟩
  · obtain ⟨⟨hq1, hq2, hq2', hq3⟩, hE, hfu, hna⟩ := hf rfl
    obtain ⟨n, m, rfl, rfl, ha0, ha1, hF⟩ := eMF_ok hE HBW.out
    clear hf hE
    have hz0 : w.heap.size < W2.heap.size := hL2.f.lt
    have HL2 := Lib.hid hL2
    have HF := Lib.hid hF
    clear hL2 hF
    by_cases hlen : (len1 : Int) = args
    · subst hlen
      obtain rfl : l.length = len1 := HLL.out
      have hln : l.length ≤ m := by omega
      have hn9 : n ≤ 1000 := by have := hq2; omega
      have hmm9 : m ≤ 1000 := by have := hq2'; omega
      have hc9 : mcodeN bs ≤ 1000000 := by omega
      have hm9 : bs.length ≤ 1000 := by omega
      clear ha0 ha1 hfu hna hq1 hq2 hq2' hq3
      have CC := Lib.hid (rmcopy_any w.heap.size BA bs c (l.length : Int) (n : Int) (m : Int) W2 HL2.out.b HL2.out.below.size hm9 hc9)
      go_wp2_with fail
      refine CC.out.mono ?_
      rintro e W3 ⟨v, vs, rfl, hn3, hb⟩
      obtain ⟨Av, cv, rfl, _, _⟩ := ownS_slice hn3.outer
      have hvl := hn3.len
      have hn3' : NestV mshp W3 W2.heap.size (.slice Av bs.length cv) vs bs := by rw [← hvl]; exact hn3
      rw [hvl]
      obtain ⟨k1, hk1⟩ : ∃ k1 : Nat, (k4 : Int) % 5 = k1 := ⟨k4 % 5, by omega⟩
      obtain ⟨k2, hk2⟩ : ∃ k2 : Nat, (k4 : Int) % 7 = k2 := ⟨k4 % 7, by omega⟩
      have hk19 : k1 ≤ 4 := by omega
      have hk29 : k2 ≤ 6 := by omega
      have hbx := Row.new W3 24 #[.int .i64 (l.length : Int), .int .i64 ((n : Int) + (k1 : Int)), .int .i64 ((m : Int) + (k2 : Int)), .slice Av bs.length cv]
      have hba := (Below.refl W3.heap.size W3).alloc (Nat.le_refl _) (.cells #[.int .i64 (l.length : Int), .int .i64 ((n : Int) + (k1 : Int)), .int .i64 ((m : Int) + (k2 : Int)), .slice Av bs.length cv] 24)
      have HN5 := Lib.hid (hn3'.below hba)
      have HL5 := Lib.hid ((HL2.out.next hb).next hba)
      have HB5 := Lib.hid hbx
      have hw23 : W2.heap.size ≤ W3.heap.size := hb.size
      have hw2 : w.heap.size ≤ W2.heap.size := HL2.out.below.size
      have hw2b : w.heap.size + 1 < W2.heap.size := HL2.out.bb.lt
      clear hn3 hn3' hb hbx hba CC HL2 d0 d1 d2 d3 hvl
      have hnk : (n : Int) + (k1 : Int) ≤ 9223372036854775807 := by omega
      have hmk : (m : Int) + (k2 : Int) ≤ 9223372036854775807 := by omega
      go_upto_region 6 with fail
      clear hk1 hk2
      generalize W3.alloc (.cells #[.int .i64 (l.length : Int), .int .i64 ((n : Int) + (k1 : Int)), .int .i64 ((m : Int) + (k2 : Int)), .slice Av bs.length cv] 24) = W5 at *
      generalize W3.heap.size = z at *
      obtain ⟨i1, hi1, hy0, hy1, hy2⟩ := info_parts infoMB
      have g2 := HB5.out.cell 3
      have b0 := HL5.out.bb.cell 0; have b1 := HL5.out.bb.cell 1; have b2 := HL5.out.bb.cell 2; have b3 := HL5.out.bb.cell 3; have b4 := HL5.out.bb.cell 4
      simp only [List.getElem?_toArray, List.getElem?_cons_zero, List.getElem?_cons_succ] at g2 b0 b1 b2 b3 b4
      have hz5 : z < W5.heap.size := HB5.out.lt
      have hou := HN5.out.outer
      rw [HN5.out.len] at hou
      have HOU := Lib.hid (((Mods.refl No W5).alloc (.cells #[.slice A1 y.code.length c1, .int .i64 y.term.kind, .int .i64 y.term.a, .int .i64 y.term.to, .int .i64 y.term.el] 50)).ownS hou fun _ _ h => h)
      have HNW := Lib.hid (Row.new W5 50 #[.slice A1 y.code.length c1, .int .i64 y.term.kind, .int .i64 y.term.a, .int .i64 y.term.to, .int .i64 y.term.el])
      clear hou
      go_wp2_with (at_builtin; refine wpList_append_own _ rfl (.tmp 49) (.tmp 51) 22 rfl W2.heap.size 50 i1 _ 5 56 Try.underlying22 hi1 hy0 hy1 hy2 rfl (by decide) (.slice Av bs.length cv) bs.length _ rfl HOU.out ⟨W5.heap.size, 0, none⟩ 1 1 (mshp.oc (.slice A1 y.code.length c1) y) rfl rfl ?a1 (moc_one y A1 _ c1) ?a2 ?a3 ?a4 ?_)
      case a1 =>
        intro j u hu
        rw [Addr.add_lit, Nat.zero_add]
        have := HNW.out.cell j
        rw [this]
        simpa [mshp] using hu
      case a2 => unfold maxLen; omega
      case a3 => omega
      case a4 => simp; omega
      intro v6 W6 ho6 hg6 _
      obtain ⟨bs', hbs'⟩ : ∃ bs', bs' = bs ++ [y] := ⟨_, rfl⟩
      obtain ⟨hz6, hbl7, A', c', rfl, hA1, hA2, hblk⟩ := mblks_snoc HN5.out HBW.out _ hg6 hbs' ho6 (HL5.out.ib.more hw2) hyc hym HB5.out hw23 ((Mods.refl (Is z) W6).put 3 v6)
      have HBK7 := Lib.hid hblk
      have HB7 : Hid (Row (W6.setCell ⟨z, 3, none⟩ (.slice A' bs'.length c')) z 24 #[.int .i64 (l.length : Int), .int .i64 ((n : Int) + (k1 : Int)), .int .i64 ((m : Int) + (k2 : Int)), .slice A' bs'.length c']) := hz6.put 3 (.slice A' bs'.length c')
      have HL7 : Hid (UX w (l.length : Int) (n : Int) (m : Int) BA bs c a1 l y A1 c1 (W6.setCell ⟨z, 3, none⟩ (.slice A' bs'.length c'))) :=
        ⟨HL5.out.below.trans (hbl7.mono hw2), HL5.out.f.below hbl7 (by omega), HL5.out.b.below (hbl7.mono hw2), HL5.out.a.below (hbl7.mono hw2), HL5.out.bb.below hbl7 hw2b, HL5.out.ib.below (hbl7.mono hw2)⟩
      have g2 := hz6.cell 3; have q2 := hz6.frozen 3
      simp only [List.getElem?_toArray, List.getElem?_cons_zero, List.getElem?_cons_succ] at g2
      have HBS := Lib.hid hbs'
      have hm10 : bs'.length ≤ maxLen := Nat.le_trans hA1 hA2
      have hbs1 : bs'.length = bs.length + 1 := by rw [hbs']; simp
      have HBN := Lib.hid hbs1
      clear ho6 hg6 hz6 hbl7 hblk HN5 HL5 HB5 HOU HNW b0 b1 b2 b3 b4 hbs' hbs1 hA1 hA2
      go_upto_region 7 with fail
      clear g2 q2
      generalize W6.setCell ⟨z, 3, none⟩ (.slice A' bs'.length c') = W7 at *
      have g0 := HB7.out.cell 0; have g1 := HB7.out.cell 1; have g2 := HB7.out.cell 2; have g3 := HB7.out.cell 3
      simp only [List.getElem?_toArray, List.getElem?_cons_zero, List.getElem?_cons_succ] at g0 g1 g2 g3
      have hz7 : z < W7.heap.size := HB7.out.lt
      have hwW7 : w.heap.size ≤ W7.heap.size := HL7.out.below.size
      go_wp2_with fail
      refine (rmfew_any W7.heap.size A' bs' c' (l.length : Int) ((n : Int) + (k1 : Int)) ((m : Int) + (k2 : Int)) W7 HBK7.out (Nat.le_refl _) hm10).mono ?_
      rintro e W8 ⟨⟨b, rfl, hf⟩, hb⟩
      have HL8 := Lib.hid (HL7.out.next hb)
      have HB8 := Lib.hid (HB7.out.below hb HB7.out.lt)
      have HBK8 := Lib.hid (HBK7.out.below hb)
      have hw78 : W7.heap.size ≤ W8.heap.size := hb.size
      clear hb HL7 HB7 HBK7 g0 g1 g2 g3 hz7
      have g0 := HB8.out.cell 0; have g1 := HB8.out.cell 1; have g2 := HB8.out.cell 2; have g3 := HB8.out.cell 3
      simp only [List.getElem?_toArray, List.getElem?_cons_zero, List.getElem?_cons_succ] at g0 g1 g2 g3
      have hz8 : z < W8.heap.size := HB8.out.lt
      cases b
      · clear hf
        go_wp2
        go_ret
        exact ⟨rfl, HL8.out.below⟩
      · obtain ⟨hp1, hp2, hp2', hp3⟩ := hf rfl
        clear hf
        have C9 := Lib.hid (rmcheck_any W7.heap.size A' bs' c' (l.length : Int) ((n : Int) + (k1 : Int)) ((m : Int) + (k2 : Int)) W8 HBK8.out hw78 (by omega) (by omega))
        have HEO := Lib.hid fun h => eMF_ok (args := (l.length : Int)) (regs := (n : Int) + (k1 : Int)) (slots := (m : Int) + (k2 : Int)) (bs := bs') h (fun z hz => by
          rw [HBS.out] at hz
          rcases List.mem_append.1 hz with h1 | h1
          · exact HBW.out z h1
          · rw [List.mem_singleton.1 h1]; exact HYW.out)
        generalize hv : eMF (l.length : Int) ((n : Int) + (k1 : Int)) ((m : Int) + (k2 : Int)) bs' = v at *
        clear hv
        go_wp2_with fail
        refine C9.out.mono ?_
        rintro e W9 ⟨rfl, hb⟩
        have HL9 := Lib.hid (HL8.out.next hb)
        have HB9 := Lib.hid (HB8.out.below hb HB8.out.lt)
        have HBK9 := Lib.hid (HBK8.out.below (hb.mono hw78))
        have hw79 : W7.heap.size ≤ W9.heap.size := Nat.le_trans hw78 hb.size
        clear hb HL8 HB8 HBK8 g0 g1 g2 g3 hz8 C9
        by_cases hv0 : v = 0
        · subst hv0
          obtain ⟨n', m', hn', hm', _, _, hF'⟩ := HEO.out rfl
          obtain rfl : n' = n + k1 := by omega
          obtain rfl : m' = m + k2 := by omega
          have HF' := Lib.hid hF'
          clear hF' hn' hm' HEO
          have hnk9 : n + k1 ≤ 1000 := by omega
          have hmk9 : m + k2 ≤ 1000 := by omega
          have d0 := HL9.out.f.cell 0; have d1 := HL9.out.f.cell 1; have d2 := HL9.out.f.cell 2; have d3 := HL9.out.f.cell 3
          simp only [List.getElem?_toArray, List.getElem?_cons_zero, List.getElem?_cons_succ] at d0 d1 d2 d3
          have hz9 : w.heap.size < W9.heap.size := HL9.out.f.lt
          have hs0 := xn0_good HF.out hln HLI.out
          have hext := runX_ext k1 k2 HF.out hs0 y f2
          rw [← xn0_ext k1 k2 hln, ← HBS.out] at hext
          have CE := Lib.hid fun W (h : XLW w (l.length : Int) (n : Int) (m : Int) BA bs c a1 l w.heap.size W) => xexec_any l n m bs w.heap.size BA a1 c cap1 (f2 : Int) W h.a h.b h.below.size hn9 hmm9 hln HF.out HLI.out hc9 hm9 (by omega)
          rw [show ((f2 : Int)).toNat = f2 from rfl] at CE
          generalize hrr : runX bs (xn0 n m l) f2 = r at *
          obtain ⟨regs2, hr2⟩ : ∃ regs2, regs2 = r.regs ++ List.replicate k1 0 := ⟨_, rfl⟩
          obtain ⟨slots2, hs2⟩ : ∃ slots2, slots2 = r.slots ++ List.replicate k2 0 := ⟨_, rfl⟩
          have hext2 : runX bs' (xn0 (n + k1) (m + k2) l) f2 = ⟨r.st, r.blk, r.pos, r.val, regs2, slots2, r.trace, r.steps⟩ := by rw [hext, hr2, hs2]; rfl
          have HR2 := Lib.hid hr2
          have HS2 := Lib.hid hs2
          have CG := Lib.hid fun W (h : XLW w (l.length : Int) (n : Int) (m : Int) BA bs c a1 l w.heap.size W) (hbk : MBlksAt W W7.heap.size A' bs') (hw : W7.heap.size ≤ W.heap.size) => xexec_at (W := W) (B := W7.heap.size) (BA := A') (AA := a1) c' cap1 l (n + k1) (m + k2) bs' (l.length : Int) ((n : Int) + (k1 : Int)) ((m : Int) + (k2 : Int)) (f2 : Int) l.length bs'.length ⟨r.st, r.blk, r.pos, r.val, regs2, slots2, r.trace, r.steps⟩ rfl rfl rfl rfl rfl hext2 (h.a.more hwW7) hbk hw hnk9 hmk9 (by omega) HF'.out HLI.out (by omega) (by omega) (by omega)
          clear hs0 hext hrr hext2 hr2 hs2
          go_wp2_with fail
          refine (CE.out W9 HL9.out.lw).mono ?_
          rintro e W10 ⟨RA, rc, SA, sc, TA, tc, rfl, hv, hb⟩
          have hba := (Below.refl W10.heap.size W10).alloc (Nat.le_refl _) (.cells #[.int .i64 r.st, .int .i64 (r.blk : Int), .int .i64 (r.pos : Int), .int .i64 r.val, .slice RA r.regs.length rc, .slice SA r.slots.length sc, .slice TA r.trace.length tc, .int .i64 (r.steps : Int)] 29)
          have HR11 := Lib.hid (Row.new W10 29 #[.int .i64 r.st, .int .i64 (r.blk : Int), .int .i64 (r.pos : Int), .int .i64 r.val, .slice RA r.regs.length rc, .slice SA r.slots.length sc, .slice TA r.trace.length tc, .int .i64 (r.steps : Int)])
          have HV11 := Lib.hid (hv.below hba)
          have hbb := hb.trans (hba.mono hb.size)
          have HL11 := Lib.hid (HL9.out.next hbb).lw
          have HB11 := Lib.hid (HB9.out.below hbb HB9.out.lt)
          have HBK11 := Lib.hid (HBK9.out.below (hbb.mono hw79))
          have hw711 : W7.heap.size ≤ (W10.alloc (.cells #[.int .i64 r.st, .int .i64 (r.blk : Int), .int .i64 (r.pos : Int), .int .i64 r.val, .slice RA r.regs.length rc, .slice SA r.slots.length sc, .slice TA r.trace.length tc, .int .i64 (r.steps : Int)] 29)).heap.size := Nat.le_trans hw79 hbb.size
          clear hb hv hba hbb HL9 HB9 HBK9 d0 d1 d2 d3 hz9 CE
          go_upto_region 10 with fail
          generalize W10.alloc (.cells #[.int .i64 r.st, .int .i64 (r.blk : Int), .int .i64 (r.pos : Int), .int .i64 r.val, .slice RA r.regs.length rc, .slice SA r.slots.length sc, .slice TA r.trace.length tc, .int .i64 (r.steps : Int)] 29) = W11 at *
          generalize W10.heap.size = z12 at *
          have g0 := HB11.out.cell 0; have g1 := HB11.out.cell 1; have g2 := HB11.out.cell 2; have g3 := HB11.out.cell 3
          simp only [List.getElem?_toArray, List.getElem?_cons_zero, List.getElem?_cons_succ] at g0 g1 g2 g3
          have hz11 : z < W11.heap.size := HB11.out.lt
          go_wp2_with fail
          refine (CG.out W11 HL11.out HBK11.out hw711).mono ?_
          rintro e W12 ⟨RB, rd, SB, sd, TB, td, rfl, hv, hb⟩
          (try dsimp only at hv)
          have hba := (Below.refl W12.heap.size W12).alloc (Nat.le_refl _) (.cells #[.int .i64 r.st, .int .i64 (r.blk : Int), .int .i64 (r.pos : Int), .int .i64 r.val, .slice RB regs2.length rd, .slice SB slots2.length sd, .slice TB r.trace.length td, .int .i64 (r.steps : Int)] 29)
          have HR13 := Lib.hid (And.intro ((HR11.out.below hb HR11.out.lt).below hba (HR11.out.below hb HR11.out.lt).lt) (Row.new W12 29 #[.int .i64 r.st, .int .i64 (r.blk : Int), .int .i64 (r.pos : Int), .int .i64 r.val, .slice RB regs2.length rd, .slice SB slots2.length sd, .slice TB r.trace.length td, .int .i64 (r.steps : Int)]))
          have HV13 := Lib.hid (And.intro ((HV11.out.below hb).below hba) (hv.below hba))
          have HL13 := Lib.hid ((HL11.out.next hb).next hba).below
          clear hb hv hba HR11 HV11 HL11 HB11 HBK11 g0 g1 g2 g3 hz11 CG hw711
          go_upto_region 11 with fail
          generalize W12.alloc (.cells #[.int .i64 r.st, .int .i64 (r.blk : Int), .int .i64 (r.pos : Int), .int .i64 r.val, .slice RB regs2.length rd, .slice SB slots2.length sd, .slice TB r.trace.length td, .int .i64 (r.steps : Int)] 29) = W13 at *
          generalize W12.heap.size = z14 at *
          have s0 := HR13.out.1.cell 0; have s1 := HR13.out.1.cell 1; have s2 := HR13.out.1.cell 2; have s3 := HR13.out.1.cell 3; have s4 := HR13.out.1.cell 4; have s5 := HR13.out.1.cell 5; have s6 := HR13.out.1.cell 6; have s7 := HR13.out.1.cell 7
          simp only [List.getElem?_toArray, List.getElem?_cons_zero, List.getElem?_cons_succ] at s0 s1 s2 s3 s4 s5 s6 s7
          have t0 := HR13.out.2.cell 0; have t1 := HR13.out.2.cell 1; have t2 := HR13.out.2.cell 2; have t3 := HR13.out.2.cell 3; have t4 := HR13.out.2.cell 4; have t5 := HR13.out.2.cell 5; have t6 := HR13.out.2.cell 6; have t7 := HR13.out.2.cell 7
          simp only [List.getElem?_toArray, List.getElem?_cons_zero, List.getElem?_cons_succ] at t0 t1 t2 t3 t4 t5 t6 t7
          have K1 := Lib.hid (vals_at (W := W13) W13.heap.size r.trace r.trace.length tc td rfl HV13.out.1.sts HV13.out.2.sts HV13.out.1.lens.2.2)
          have hcap := own_len HV13.out.2.regs
          (try dsimp only at hcap)
          have K2 := Lib.hid fun k => prefix_any W13.heap.size RA RB r.regs (List.replicate k1 0) r.regs.length regs2.length rc rd (W13.drewN k) (HV13.out.1.srs.drewN k) (by rw [← HR2.out]; exact HV13.out.2.srs.drewN k) rfl (by rw [HR2.out]) (Nat.le_trans hcap.1 hcap.2) hcap.1 hcap.2
          clear hcap
          have hcap := own_len HV13.out.2.slots
          (try dsimp only at hcap)
          have K3 := Lib.hid fun k => prefix_any W13.heap.size SA SB r.slots (List.replicate k2 0) r.slots.length slots2.length sc sd (W13.drewN k) (HV13.out.1.sss.drewN k) (by rw [← HS2.out]; exact HV13.out.2.sss.drewN k) rfl (by rw [HS2.out]) (Nat.le_trans hcap.1 hcap.2) hcap.1 hcap.2
          clear hcap
          go_wp2_with fail
          refine K1.out.mono ?_
          rintro e W14 ⟨rfl, q1, rfl⟩
          go_wp2_with fail
          refine (K2.out _).mono ?_
          rintro e W15 ⟨rfl, q2, rfl⟩
          go_wp2_with fail
          refine (K3.out _).mono ?_
          rintro e W16 ⟨rfl, q3, rfl⟩
          go_wp2
          go_ret
          exact ⟨rfl, blw_drewN HL13.out _⟩
        · have hvn : (v != 0) = true := by simp [hv0]
          clear hv0
          go_wp2
          go_ret
          exact ⟨rfl, HL9.out.below⟩
    · have hle : ((len1 : Int) != args) = true := by simp [hlen]
      clear hlen
      go_wp2_with fail
      refine (xawake_any _).mono ?_
      rintro e W3 ⟨rfl, hb⟩
      have HB3 := Lib.hid (HL2.out.next hb).below
      clear hb HL2 d0 d1 d2 d3
      go_wp2
      go_ret
      exact ⟨rfl, HB3.out⟩

end Go.Proofs.Ytcimjghejclknaa
