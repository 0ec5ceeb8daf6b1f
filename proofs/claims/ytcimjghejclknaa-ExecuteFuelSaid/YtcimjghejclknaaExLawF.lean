/-
  The walk of the statement that a run with less fuel is a prefix of the run with more fuel.
-/
import Derived.Test.YtcimjghejclknaaExLawM
namespace Go.Proofs.Ytcimjghejclknaa
open Go.RowKit
set_option linter.unusedVariables false
set_option linter.unusedSimpArgs false

set_option maxRecDepth 100000 in
set_option maxHeartbeats 8000000 in
theorem ExecuteFuel_walk (a0 : Array Value) (a1 : Option Addr) (len1 cap1 : Nat) (z1 : List Int) (a2 a3 : Int) (w : World) (w0 : IsMFn w a0) (w1 : IsRow .i64 w a1 len1 cap1 z1) (w2 : (Lit.int .u16 a2).wf = true) (w3 : (Lit.int .u16 a3).wf = true) :
    Calls Try.prog 4 #[.agg a0, .slice a1 len1 cap1, .int .u16 a2, .int .u16 a3] w fun e w' => e = .returned (.bool true) ∧ Below w.heap.size w w' := by
  obtain ⟨args, regs, slots, BA, bs, c, rfl, hwa, hwr, hws, hbl, hbm, hbs, hbw⟩ := w0
  obtain ⟨l, hll, hli, hls, hlc, hcm⟩ := w1.ints
  have hu2 : 0 ≤ a2 ∧ a2 ≤ 65535 := by simp [Lit.wf, IntKind.min, IntKind.max, IntKind.signed, IntKind.bits] at w2; omega
  have hu3 : 0 ≤ a3 ∧ a3 ≤ 65535 := by simp [Lit.wf, IntKind.min, IntKind.max, IntKind.signed, IntKind.bits] at w3; omega
  obtain ⟨f2, rfl⟩ := Int.eq_ofNat_of_zero_le hu2.1
  obtain ⟨f3, rfl⟩ := Int.eq_ofNat_of_zero_le hu3.1
  have hf2 : f2 ≤ 65535 := by omega
  have hf3 : f3 ≤ 65535 := by omega
  clear w2 w3 hu2 hu3
  have hb0 := (Below.refl w.heap.size w).alloc (Nat.le_refl _) (.cells #[.int .i64 args, .int .i64 regs, .int .i64 slots, .slice BA bs.length c] 24)
  have hL0 : XLW w args regs slots BA bs c a1 l w.heap.size (w.alloc (.cells #[.int .i64 args, .int .i64 regs, .int .i64 slots, .slice BA bs.length c] 24)) := ⟨hb0, Row.new _ _ _, hbs.below hb0, hls.below hb0⟩
  have hbl2 : bs.length ≤ maxLen := Nat.le_trans hbl hbm
  have hnm : len1 ≤ maxLen := Nat.le_trans hlc hcm
  have HLI := Lib.hid hli
  have HBW := Lib.hid hbw
  have HLL := Lib.hid hll
  have hnm2 : len1 ≤ 9223372036854775807 := by unfold maxLen at hnm; omega
  clear hb0 hls hbs w1 hwa hwr hws hbl hbm hlc hcm hli hbw hll
  go_enter Try.func4, Try.ntmps4
  go_wp2_with fail
  refine (xawake_any _).mono ?_
  rintro e W1 ⟨rfl, hb⟩
  have hL1 := hL0.next hb
  clear hb hL0
  have d0 := hL1.f.cell 0; have d1 := hL1.f.cell 1; have d2 := hL1.f.cell 2; have d3 := hL1.f.cell 3
  simp only [List.getElem?_toArray, List.getElem?_cons_zero, List.getElem?_cons_succ] at d0 d1 d2 d3
  have HL1 := Lib.hid hL1
  clear hL1
  go_wp2_with fail
  refine (xright_any w.heap.size BA a1 bs c len1 cap1 args regs slots 0 W1 HL1.out.b HL1.out.below.size hbl2 hnm).mono ?_
  rintro e W2 ⟨⟨b, rfl, hf⟩, hb⟩
  have hL2 := HL1.out.next hb
  have d0 := hL2.f.cell 0; have d1 := hL2.f.cell 1; have d2 := hL2.f.cell 2; have d3 := hL2.f.cell 3
  simp only [List.getElem?_toArray, List.getElem?_cons_zero, List.getElem?_cons_succ] at d0 d1 d2 d3
  clear hb HL1 hbl2
  cases b
  · clear hf
    go_wp2_with fail
    refine (xawake_any _).mono ?_
    rintro e W3 ⟨rfl, hb⟩
    have HB3 := Lib.hid (hL2.next hb).below
    clear hb hL2 d0 d1 d2 d3
    go_wp2
    go_ret
    exact ⟨rfl, HB3.out⟩
  · obtain ⟨⟨hq1, hq2, hq2', hq3⟩, hE, hfu, hna⟩ := hf rfl
    obtain ⟨n, m, rfl, rfl, ha0, ha1, hF⟩ := eMF_ok hE HBW.out
    clear hf hE
    have hz0 : w.heap.size < W2.heap.size := hL2.f.lt
    have HL2 := Lib.hid hL2
    have HF := Lib.hid hF
    clear hL2 hF
    by_cases hlen : (len1 : Int) = args
    · subst hlen
      obtain rfl : l.length = len1 := HLL.out
      have hln : l.length ≤ m := by omega
      have hn9 : n ≤ 1000 := by have := hq2; omega
      have hmm9 : m ≤ 1000 := by have := hq2'; omega
      have hc9 : mcodeN bs ≤ 1000000 := by omega
      have hm9 : bs.length ≤ 1000 := by omega
      clear ha0 ha1 hfu hna hq1 hq2 hq2' hq3
      go_upto_region 5 with fail
      obtain ⟨N, hN⟩ : ∃ N : Nat, (f2 : Int) % 200 = N := ⟨f2 % 200, by omega⟩
      obtain ⟨M, hM⟩ : ∃ M : Nat, (f3 : Int) % 200 = M := ⟨f3 % 200, by omega⟩
      have hN9 : N < 200 := by omega
      have hM9 : M < 200 := by omega
      rw [hN, hM]
      clear hN hM hf2 hf3
      have hr := runX_steps bs (xn0 n m l) N
      have hsq := runX_steps bs (xn0 n m l) (N + M)
      have hpre := runX_pre bs (xn0 n m l) N M
      have hmono := runX_mono bs (xn0 n m l) N M
      have hstop := runX_stop bs (xn0 n m l) (n := N)
      have hs0 : (xn0 n m l).steps = 0 := rfl
      rw [hs0, Nat.zero_add] at hr hsq
      have CE := Lib.hid fun W (h : XLW w (l.length : Int) (n : Int) (m : Int) BA bs c a1 l w.heap.size W) => xexec_any l n m bs w.heap.size BA a1 c cap1 (N : Int) W h.a h.b h.below.size hn9 hmm9 hln HF.out HLI.out hc9 hm9 (by omega)
      have CE2 : Hid (∀ W, XLW w (l.length : Int) (n : Int) (m : Int) BA bs c a1 l w.heap.size W → Calls Try.prog 11 #[.agg #[.int .i64 l.length, .int .i64 n, .int .i64 m, .slice BA bs.length c], .slice a1 l.length cap1, .int .i64 ((N : Int) + (M : Int))] W (XQ W (runX bs (xn0 n m l) (N + M)) 0)) := fun W h => by
        have := xexec_any l n m bs w.heap.size BA a1 c cap1 ((N : Int) + (M : Int)) W h.a h.b h.below.size hn9 hmm9 hln HF.out HLI.out hc9 hm9 (by omega)
        rwa [show ((N : Int) + (M : Int)).toNat = N + M by omega] at this
      rw [show ((N : Int)).toNat = N from rfl] at CE
      have hst9 := hstop
      generalize hrr : runX bs (xn0 n m l) N = r at *
      generalize hss : runX bs (xn0 n m l) (N + M) = s at *
      have hsr : ¬ r.st = 0 → s = r := fun h => by rw [← hss]; exact hst9 h M
      obtain ⟨l2, hl2⟩ := hpre
      have HP := Lib.hid hl2
      have HSR := Lib.hid hsr
      have h1 : (r.steps : Int) ≤ (N : Int) := by omega
      have h2 : (s.steps : Int) ≤ (N : Int) + (M : Int) := by omega
      have h3 : (r.steps : Int) ≤ (s.steps : Int) := by omega
      have HRN := Lib.hid hr.2.2
      clear hr hsq hmono hstop hs0 hst9 hrr hss hsr hl2
      go_wp2_with fail
      refine (CE.out W2 HL2.out).mono ?_
      rintro e W3 ⟨RA, rc, SA, sc, TA, tc, rfl, hv, hb⟩
      have hL3 := HL2.out.next hb
      have hv3 := hv.base HL2.out.below.size
      have hba := (Below.refl W3.heap.size W3).alloc (Nat.le_refl _) (.cells #[.int .i64 r.st, .int .i64 (r.blk : Int), .int .i64 (r.pos : Int), .int .i64 r.val, .slice RA r.regs.length rc, .slice SA r.slots.length sc, .slice TA r.trace.length tc, .int .i64 (r.steps : Int)] 29)
      have HR4 := Lib.hid (Row.new W3 29 #[.int .i64 r.st, .int .i64 (r.blk : Int), .int .i64 (r.pos : Int), .int .i64 r.val, .slice RA r.regs.length rc, .slice SA r.slots.length sc, .slice TA r.trace.length tc, .int .i64 (r.steps : Int)])
      have HV4 := Lib.hid (hv3.below hba)
      have HL4 := Lib.hid (hL3.next hba)
      clear hb hv hv3 hba hL3 HL2 d0 d1 d2 d3 hz0 CE
      go_upto_region 6 with fail
      generalize W3.alloc (.cells #[.int .i64 r.st, .int .i64 (r.blk : Int), .int .i64 (r.pos : Int), .int .i64 r.val, .slice RA r.regs.length rc, .slice SA r.slots.length sc, .slice TA r.trace.length tc, .int .i64 (r.steps : Int)] 29) = W4 at *
      generalize W3.heap.size = z7 at *
      have d0 := HL4.out.f.cell 0; have d1 := HL4.out.f.cell 1; have d2 := HL4.out.f.cell 2; have d3 := HL4.out.f.cell 3
      simp only [List.getElem?_toArray, List.getElem?_cons_zero, List.getElem?_cons_succ] at d0 d1 d2 d3
      go_wp2_with fail
      refine (CE2.out W4 HL4.out).mono ?_
      rintro e W5 ⟨RB, rd, SB, sd, TB, td, rfl, hv, hb⟩
      have hv5 := hv.base HL4.out.below.size
      have hba := (Below.refl W5.heap.size W5).alloc (Nat.le_refl _) (.cells #[.int .i64 s.st, .int .i64 (s.blk : Int), .int .i64 (s.pos : Int), .int .i64 s.val, .slice RB s.regs.length rd, .slice SB s.slots.length sd, .slice TB s.trace.length td, .int .i64 (s.steps : Int)] 29)
      have HR6 := Lib.hid (And.intro ((HR4.out.below hb HR4.out.lt).below hba (HR4.out.below hb HR4.out.lt).lt) (Row.new W5 29 #[.int .i64 s.st, .int .i64 (s.blk : Int), .int .i64 (s.pos : Int), .int .i64 s.val, .slice RB s.regs.length rd, .slice SB s.slots.length sd, .slice TB s.trace.length td, .int .i64 (s.steps : Int)]))
      have HV6 := Lib.hid (And.intro ((HV4.out.below hb).below hba) (hv5.below hba))
      have HL6 := Lib.hid ((HL4.out.next hb).next hba).below
      clear hb hv hv5 hba HL4 HR4 HV4 d0 d1 d2 d3 CE2
      go_upto_region 7 with fail
      generalize W5.alloc (.cells #[.int .i64 s.st, .int .i64 (s.blk : Int), .int .i64 (s.pos : Int), .int .i64 s.val, .slice RB s.regs.length rd, .slice SB s.slots.length sd, .slice TB s.trace.length td, .int .i64 (s.steps : Int)] 29) = W6 at *
      generalize W5.heap.size = z9 at *
      have hpl : s.trace.length = (r.trace ++ l2).length := congrArg List.length HP.out
      have hcap := (own_len HV6.out.2.trace)
      have CP := Lib.hid (prefix_any W6.heap.size TA TB r.trace l2 r.trace.length s.trace.length tc td W6 HV6.out.1.sts (by rw [← HP.out]; exact HV6.out.2.sts) rfl hpl.symm (Nat.le_trans hcap.1 hcap.2) hcap.1 hcap.2)
      clear hpl hcap
      have s0 := HR6.out.1.cell 0; have s1 := HR6.out.1.cell 1; have s2 := HR6.out.1.cell 2; have s3 := HR6.out.1.cell 3; have s4 := HR6.out.1.cell 4; have s5 := HR6.out.1.cell 5; have s6 := HR6.out.1.cell 6; have s7 := HR6.out.1.cell 7
      simp only [List.getElem?_toArray, List.getElem?_cons_zero, List.getElem?_cons_succ] at s0 s1 s2 s3 s4 s5 s6 s7
      have t0 := HR6.out.2.cell 0; have t1 := HR6.out.2.cell 1; have t2 := HR6.out.2.cell 2; have t3 := HR6.out.2.cell 3; have t4 := HR6.out.2.cell 4; have t5 := HR6.out.2.cell 5; have t6 := HR6.out.2.cell 6; have t7 := HR6.out.2.cell 7
      simp only [List.getElem?_toArray, List.getElem?_cons_zero, List.getElem?_cons_succ] at t0 t1 t2 t3 t4 t5 t6 t7
      by_cases h0 : r.st = 0
      · have e0 : (r.st == 0) = true := by simp [h0]
        have e1 : ((r.steps : Int) != (N : Int)) = false := by have := HRN.out h0; simp; omega
        clear h0
        go_wp2_with fail
        refine CP.out.mono ?_
        rintro e W7 ⟨rfl, k, rfl⟩
        go_wp2
        go_ret
        exact ⟨rfl, blw_drewN HL6.out k⟩
      · have e0 : (r.st == 0) = false := by simp [h0]
        obtain rfl := HSR.out h0
        clear h0
        go_wp2_with fail
        refine CP.out.mono ?_
        rintro e W7 ⟨rfl, k, rfl⟩
        have C6 := Lib.hid (xsame_any s W6.heap.size RA SA TA RB SB TB rc sc tc rd sd td (W6.drewN k) (HV6.out.1.srs.drewN k) (HV6.out.2.srs.drewN k) (HV6.out.1.sts.drewN k) (HV6.out.2.sts.drewN k) (HV6.out.1.sss.drewN k) (HV6.out.2.sss.drewN k) (Nat.le_refl _) HV6.out.1.lens.1 HV6.out.1.lens.2.1 HV6.out.1.lens.2.2)
        go_wp2_with fail
        refine C6.out.mono ?_
        rintro e W8 ⟨rfl, hb⟩
        have HB8 := Lib.hid ((blw_drewN HL6.out k).trans (hb.mono HL6.out.size))
        clear hb
        go_wp2
        go_ret
        exact ⟨rfl, HB8.out⟩
    · have hle : ((len1 : Int) != args) = true := by simp [hlen]
      clear hlen
      go_wp2_with fail
      refine (xawake_any _).mono ?_
      rintro e W3 ⟨rfl, hb⟩
      have HB3 := Lib.hid (HL2.out.next hb).below
      clear hb HL2 d0 d1 d2 d3
      go_wp2
      go_ret
      exact ⟨rfl, HB3.out⟩

end Go.Proofs.Ytcimjghejclknaa
