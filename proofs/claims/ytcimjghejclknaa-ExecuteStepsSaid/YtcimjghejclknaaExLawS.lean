/-
  The walk of the statement that executing with some fuel is taking as many steps from the initial run.
-/
import Derived.Test.YtcimjghejclknaaExLawM
namespace Go.Proofs.Ytcimjghejclknaa
open Go.RowKit
set_option linter.unusedVariables false
set_option linter.unusedSimpArgs false

set_option maxRecDepth 100000 in
set_option maxHeartbeats 8000000 in
theorem ExecuteSteps_walk (a0 : Array Value) (a1 : Option Addr) (len1 cap1 : Nat) (z1 : List Int) (a2 : Int) (w : World) (w0 : IsMFn w a0) (w1 : IsRow .i64 w a1 len1 cap1 z1) (w2 : (Lit.int .u8 a2).wf = true) :
    Calls Try.prog 5 #[.agg a0, .slice a1 len1 cap1, .int .u8 a2] w fun e w' => e = .returned (.bool true) ∧ Below w.heap.size w w' := by
  obtain ⟨args, regs, slots, BA, bs, c, rfl, hwa, hwr, hws, hbl, hbm, hbs, hbw⟩ := w0
  obtain ⟨l, hll, hli, hls, hlc, hcm⟩ := w1.ints
  have hu2 := u8_of_wf w2
  obtain ⟨f2, rfl⟩ := Int.eq_ofNat_of_zero_le hu2.1
  have hf2 : f2 ≤ 255 := by omega
  clear w2 hu2
  have hb0 := (Below.refl w.heap.size w).alloc (Nat.le_refl _) (.cells #[.int .i64 args, .int .i64 regs, .int .i64 slots, .slice BA bs.length c] 24)
  have hL0 : XLW w args regs slots BA bs c a1 l w.heap.size (w.alloc (.cells #[.int .i64 args, .int .i64 regs, .int .i64 slots, .slice BA bs.length c] 24)) := ⟨hb0, Row.new _ _ _, hbs.below hb0, hls.below hb0⟩
  have hbl2 : bs.length ≤ maxLen := Nat.le_trans hbl hbm
  have hnm : len1 ≤ maxLen := Nat.le_trans hlc hcm
  have HLI := Lib.hid hli
  have HBW := Lib.hid hbw
  have HLL := Lib.hid hll
  have hnm2 : len1 ≤ 9223372036854775807 := by unfold maxLen at hnm; omega
  clear hb0 hls hbs w1 hwa hwr hws hbl hbm hlc hcm hli hbw hll
  go_enter Try.func5, Try.ntmps5
  go_wp2_with fail
  refine (xawake_any _).mono ?_
  rintro e W1 ⟨rfl, hb⟩
  have hL1 := hL0.next hb
  clear hb hL0
  have d0 := hL1.f.cell 0; have d1 := hL1.f.cell 1; have d2 := hL1.f.cell 2; have d3 := hL1.f.cell 3
  simp only [List.getElem?_toArray, List.getElem?_cons_zero, List.getElem?_cons_succ] at d0 d1 d2 d3
  have HL1 := Lib.hid hL1
  clear hL1
  go_wp2_with fail
  refine (xright_any w.heap.size BA a1 bs c len1 cap1 args regs slots 0 W1 HL1.out.b HL1.out.below.size hbl2 hnm).mono ?_
  rintro e W2 ⟨⟨b, rfl, hf⟩, hb⟩
  have hL2 := HL1.out.next hb
  have d0 := hL2.f.cell 0; have d1 := hL2.f.cell 1; have d2 := hL2.f.cell 2; have d3 := hL2.f.cell 3
  simp only [List.getElem?_toArray, List.getElem?_cons_zero, List.getElem?_cons_succ] at d0 d1 d2 d3
  clear hb HL1 hbl2
  cases b
  · clear hf
    go_wp2_with fail
    refine (xawake_any _).mono ?_
    rintro e W3 ⟨rfl, hb⟩
    have HB3 := Lib.hid (hL2.next hb).below
    clear hb hL2 d0 d1 d2 d3
    go_wp2
    go_ret
    exact ⟨rfl, HB3.out⟩
  · obtain ⟨⟨hq1, hq2, hq2', hq3⟩, hE, hfu, hna⟩ := hf rfl
    obtain ⟨n, m, rfl, rfl, ha0, ha1, hF⟩ := eMF_ok hE HBW.out
    clear hf hE
    have hz0 : w.heap.size < W2.heap.size := hL2.f.lt
    have HL2 := Lib.hid hL2
    have HF := Lib.hid hF
    clear hL2 hF
    by_cases hlen : (len1 : Int) = args
    · subst hlen
      obtain rfl : l.length = len1 := HLL.out
      have hln : l.length ≤ m := by omega
      have hn9 : n ≤ 1000 := by have := hq2; omega
      have hmm9 : m ≤ 1000 := by have := hq2'; omega
      have hc9 : mcodeN bs ≤ 1000000 := by omega
      have hm9 : bs.length ≤ 1000 := by omega
      clear ha0 ha1 hfu hna hq1 hq2 hq2' hq3
      go_upto_region 4 with fail
      obtain ⟨N, hN⟩ : ∃ N : Nat, (f2 : Int) % 60 = N := ⟨f2 % 60, by omega⟩
      have hN9 : N < 60 := by omega
      rw [hN]
      clear hN hf2
      have CS := Lib.hid fun W (h : XLW w (l.length : Int) (n : Int) (m : Int) BA bs c a1 l w.heap.size W) => xstart_any l n m w.heap.size BA a1 bs.length c cap1 W h.a h.below.size hn9 hmm9 hln
      have CE := Lib.hid fun W (h : XLW w (l.length : Int) (n : Int) (m : Int) BA bs c a1 l w.heap.size W) => xexec_any l n m bs w.heap.size BA a1 c cap1 (N : Int) W h.a h.b h.below.size hn9 hmm9 hln HF.out HLI.out hc9 hm9 (by omega)
      rw [show ((N : Int)).toNat = N from rfl] at CE
      have HG0 := Lib.hid (xn0_good HF.out hln HLI.out)
      have hs0 : (xn0 n m l).steps = 0 := rfl
      generalize hs : (xn0 n m l) = s at *
      have HS0 := Lib.hid hs0
      clear hs hs0
      go_wp2_with fail
      refine (CS.out W2 HL2.out).mono ?_
      rintro e W3 ⟨RA, rc, SA, sc, TA, tc, rfl, hv, hb⟩
      have hv3 := hv.base HL2.out.below.size
      have hba := (Below.refl W3.heap.size W3).alloc (Nat.le_refl _) (.cells #[.int .i64 s.st, .int .i64 (s.blk : Int), .int .i64 (s.pos : Int), .int .i64 s.val, .slice RA s.regs.length rc, .slice SA s.slots.length sc, .slice TA s.trace.length tc, .int .i64 (s.steps : Int)] 29)
      have HO4 : Hid (Xp (W3.alloc (.cells #[.int .i64 s.st, .int .i64 (s.blk : Int), .int .i64 (s.pos : Int), .int .i64 s.val, .slice RA s.regs.length rc, .slice SA s.slots.length sc, .slice TA s.trace.length tc, .int .i64 (s.steps : Int)] 29)) w.heap.size W3.heap.size runT [] RA rc SA sc TA tc s) := ⟨Row.new _ _ _, hv3.below hba, Nat.le_trans HL2.out.below.size hb.size, by decide⟩
      have HL4 := Lib.hid ((HL2.out.next hb).next hba)
      clear hb hv hv3 hba HL2 d0 d1 d2 d3 hz0 CS
      go_upto_region 5 with fail
      generalize W3.alloc (.cells #[.int .i64 s.st, .int .i64 (s.blk : Int), .int .i64 (s.pos : Int), .int .i64 s.val, .slice RA s.regs.length rc, .slice SA s.slots.length sc, .slice TA s.trace.length tc, .int .i64 (s.steps : Int)] 29) = W4 at *
      generalize W3.heap.size = z at *
      have hzw : ¬ w.heap.size = z := fun e => by
        have h1 := HL4.out.f
        have h2 := HO4.out.row
        unfold Row at h1 h2
        rw [e, h2] at h1
        simp [runT] at h1
      go_wp2
      go_loopg [10] N (fun g s10 wr => ∃ (k : Nat) (RB : Option Addr) (rd : Nat) (SB : Option Addr) (sd : Nat) (TB : Option Addr) (td : Nat), k + g = N ∧ s10 = .int .i64 k ∧ Hid (Xp wr w.heap.size z runT [] RB rd SB sd TB td (runX bs s k)) ∧ Hid (XLW w (l.length : Int) (n : Int) (m : Int) BA bs c a1 l w.heap.size wr))
      case atStart => exact ⟨0, RA, rc, SA, sc, TA, tc, by omega, rfl, HO4.out, HL4.out⟩
      case round =>
        obtain ⟨k, RB, rd, SB, sd, TB, td, hk, rfl, HO, HL⟩ := hrel
        clear HO4 HL4
        have hgd := runX_good HF.out HG0.out k
        have hst := (runX_steps bs s k).1
        rw [HS0.out, Nat.zero_add] at hst
        have HKN : Hid (runX bs s (k + 1) = stepX bs (runX bs s k)) := rfl
        cases gk with
        | zero =>
          obtain rfl : k = N := by omega
          clear hgd hst HKN hk
          generalize runX bs s k = r at *
          have d0 := HL.out.f.cell 0; have d1 := HL.out.f.cell 1; have d2 := HL.out.f.cell 2; have d3 := HL.out.f.cell 3
          simp only [List.getElem?_toArray, List.getElem?_cons_zero, List.getElem?_cons_succ] at d0 d1 d2 d3
          have hz1 : w.heap.size < wr.heap.size := HL.out.f.lt
          go_wp2_with fail
          refine (CE.out wr HL.out).mono ?_
          rintro e W5 ⟨RC, re, SC, se, TC, te, rfl, hv, hb⟩
          have hba := (Below.refl W5.heap.size W5).alloc (Nat.le_refl _) (.cells #[.int .i64 r.st, .int .i64 (r.blk : Int), .int .i64 (r.pos : Int), .int .i64 r.val, .slice RC r.regs.length re, .slice SC r.slots.length se, .slice TC r.trace.length te, .int .i64 (r.steps : Int)] 29)
          have HO6 := Lib.hid ((HO.out.next hb).next hba)
          have HR6 := Lib.hid (Row.new W5 29 #[.int .i64 r.st, .int .i64 (r.blk : Int), .int .i64 (r.pos : Int), .int .i64 r.val, .slice RC r.regs.length re, .slice SC r.slots.length se, .slice TC r.trace.length te, .int .i64 (r.steps : Int)])
          have HV6 := Lib.hid (hv.below hba)
          have HB6 := Lib.hid ((HL.out.next hb).next hba).below
          clear hb hv hba HO HL CE d0 d1 d2 d3 hz1
          go_upto_region 12 with fail
          generalize W5.alloc (.cells #[.int .i64 r.st, .int .i64 (r.blk : Int), .int .i64 (r.pos : Int), .int .i64 r.val, .slice RC r.regs.length re, .slice SC r.slots.length se, .slice TC r.trace.length te, .int .i64 (r.steps : Int)] 29) = W6 at *
          generalize W5.heap.size = z2 at *
          obtain ⟨s0, s1, s2, s3, s4, s5, s6, s7⟩ := HO6.out.cells
          have t0 := HR6.out.cell 0; have t1 := HR6.out.cell 1; have t2 := HR6.out.cell 2; have t3 := HR6.out.cell 3; have t4 := HR6.out.cell 4; have t5 := HR6.out.cell 5; have t6 := HR6.out.cell 6; have t7 := HR6.out.cell 7
          simp only [List.getElem?_toArray, List.getElem?_cons_zero, List.getElem?_cons_succ] at t0 t1 t2 t3 t4 t5 t6 t7
          have C6 := Lib.hid (xsame_any r W6.heap.size RB SB TB RC SC TC rd sd td re se te W6 HO6.out.v.srs HV6.out.srs HO6.out.v.sts HV6.out.sts HO6.out.v.sss HV6.out.sss (Nat.le_refl _) HV6.out.lens.1 HV6.out.lens.2.1 HV6.out.lens.2.2)
          go_wp2_with fail
          refine C6.out.mono ?_
          rintro e W8 ⟨rfl, hb⟩
          have HB8 := Lib.hid (HB6.out.trans (hb.mono HB6.out.size))
          clear hb
          go_wp2
          go_ret
          exact ⟨rfl, HB8.out⟩
        | succ g =>
          have hkn : (k : Int) < (N : Int) := by omega
          have HK := Lib.hid hk
          have hrl := hgd.lenr
          have hsl := hgd.lens
          have hrb := hgd.blk
          have CI := Lib.hid fun W RC SC TC re se te (h : XLW w (l.length : Int) (n : Int) (m : Int) BA bs c a1 l w.heap.size W) (hv : XV W w.heap.size RC re SC se TC te (runX bs s k)) => xstepi_any bs (runX bs s k) w.heap.size w.heap.size (l.length : Int) (n : Int) (m : Int) RC SC TC BA re se te c W hv h.b h.below.size (by rw [hgd.lenr, hgd.lens]; exact HF.out) (by rw [hgd.lenr, hgd.lens]; exact hgd) (by omega) (by omega) (by omega) hc9 hm9
          clear hgd hst hk
          generalize hrr : runX bs s k = r at *
          have HRR := Lib.hid hrr
          clear hrr
          have e1 : ((r.regs.length : Int) != (n : Int)) = false := by simp [hrl]
          have e1' : ((r.slots.length : Int) != (m : Int)) = false := by simp [hsl]
          have e2 : (r.blk : Int) < (bs.length : Int) := by omega
          have d0 := HL.out.f.cell 0; have d1 := HL.out.f.cell 1; have d2 := HL.out.f.cell 2; have d3 := HL.out.f.cell 3
          simp only [List.getElem?_toArray, List.getElem?_cons_zero, List.getElem?_cons_succ] at d0 d1 d2 d3
          obtain ⟨s0, s1, s2, s3, s4, s5, s6, s7⟩ := HO.out.cells
          have HRL := Lib.hid hrl
          clear hrl hrb hsl
          go_wp2_with fail
          refine (CI.out wr RB SB TB rd sd td HL.out HO.out.v).mono ?_
          rintro e W5 ⟨RC, re, SC, se, TC, te, rfl, hv, hb⟩
          have hrow : Row W5 z 29 #[.int .i64 r.st, .int .i64 (r.blk : Int), .int .i64 (r.pos : Int), .int .i64 r.val, .slice RB r.regs.length rd, .slice SB r.slots.length sd, .slice TB r.trace.length td, .int .i64 (r.steps : Int)] := HO.out.row.below hb HO.out.row.lt
          have s0 := hrow.cell 0; have s1 := hrow.cell 1; have s2 := hrow.cell 2; have s3 := hrow.cell 3; have s4 := hrow.cell 4; have s5 := hrow.cell 5; have s6 := hrow.cell 6; have s7 := hrow.cell 7
          simp only [List.getElem?_toArray, List.getElem?_cons_zero, List.getElem?_cons_succ] at s0 s1 s2 s3 s4 s5 s6 s7
          have q0 := hrow.frozen 0; have q1 := hrow.frozen 1; have q2 := hrow.frozen 2; have q3 := hrow.frozen 3; have q4 := hrow.frozen 4; have q5 := hrow.frozen 5; have q6 := hrow.frozen 6; have q7 := hrow.frozen 7
          have HROW := Lib.hid hrow
          have HV := Lib.hid hv
          have HL5 := Lib.hid (HL.out.next hb)
          have hzr := HO.out.row.lt
          have hzl := HO.out.lt
          have hws := HL.out.below.size
          clear hrow hv hb CI d0 d1 d2 d3
          go_wp2
          go_roundg g
          case measure => omega
          case rel =>
            refine ⟨k + 1, RC, re, SC, se, TC, te, by have := HK.out; omega, by go_num, ?_, ?_⟩
            · rw [Hid, HKN.out]
              exact ⟨HROW.out.put8 _ _ _ _ _ _ _ _, (HV.out.mods (mods8 W5 z _ _ _ _ _ _ _ _) (fun k hk => .inl (by unfold Is at hk; omega))).base hws, hzl, by decide⟩
            · have hB := blw8 (p := z) hzl HL5.out.below (.int .i64 (stepX bs r).st) (.int .i64 ((stepX bs r).blk : Int)) (.int .i64 ((stepX bs r).pos : Int)) (.int .i64 (stepX bs r).val) (.slice RC (stepX bs r).regs.length re) (.slice SC (stepX bs r).slots.length se) (.slice TC (stepX bs r).trace.length te) (.int .i64 ((stepX bs r).steps : Int))
              have hB5 := blw8 (p := z) hzl (Below.refl w.heap.size W5) (.int .i64 (stepX bs r).st) (.int .i64 ((stepX bs r).blk : Int)) (.int .i64 ((stepX bs r).pos : Int)) (.int .i64 (stepX bs r).val) (.slice RC (stepX bs r).regs.length re) (.slice SC (stepX bs r).slots.length se) (.slice TC (stepX bs r).trace.length te) (.int .i64 ((stepX bs r).steps : Int))
              exact ⟨hB, HL5.out.f.mods (mods8 W5 z _ _ _ _ _ _ _ _) hzw, HL5.out.b.below hB5, HL5.out.a.below hB5⟩
    · have hle : ((len1 : Int) != args) = true := by simp [hlen]
      clear hlen
      go_wp2_with fail
      refine (xawake_any _).mono ?_
      rintro e W3 ⟨rfl, hb⟩
      have HB3 := Lib.hid (HL2.out.next hb).below
      clear hb HL2 d0 d1 d2 d3
      go_wp2
      go_ret
      exact ⟨rfl, HB3.out⟩

end Go.Proofs.Ytcimjghejclknaa
