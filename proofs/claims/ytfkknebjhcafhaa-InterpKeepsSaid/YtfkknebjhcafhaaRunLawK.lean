/-
  The walk of the statement that arguments are not modified, and that a run shares no memory with the run before it (written by wip/lab/genlawk.py).
-/
import Derived.Test.YtfkknebjhcafhaaRunLawM
import Derived.Test.YtfkknebjhcafhaaRunOu
import Derived.Deep.LoopGhost
namespace Go.Proofs.Ytfkknebjhcafhaa
open Go.RowKit
set_option linter.unusedVariables false
set_option linter.unusedSimpArgs false

set_option maxRecDepth 100000 in
set_option maxHeartbeats 8000000 in
theorem InterpKeeps_walk (a0 : Array Value) (a1 : Option Addr) (len1 cap1 : Nat) (z1 : List Int) (a2 : Int) (w : World) (w0 : IsFn w a0) (w1 : IsRow .i64 w a1 len1 cap1 z1) (w2 : (Lit.int .u8 a2).wf = true) :
    Calls Try.prog 7 #[.agg a0, .slice a1 len1 cap1, .int .u8 a2] w fun e w' => e = .returned (.bool true) ∧ Below w.heap.size w w' := by
  obtain ⟨args, regs, BA, bs, c, rfl, hwa, hwr, hbl, hbm, hbs, hbw⟩ := w0
  obtain ⟨l, hll, hli, hls, hlc, hcm⟩ := w1.ints
  have hu2 := u8_of_wf w2
  obtain ⟨f2, rfl⟩ := Int.eq_ofNat_of_zero_le hu2.1
  have hf2 : f2 ≤ 255 := by omega
  clear w2 hu2
  have hb0 := (Below.refl w.heap.size w).alloc (Nat.le_refl _) (.cells #[.int .i64 args, .int .i64 regs, .slice BA bs.length c] 24)
  have hL0 : LW w args regs BA bs c a1 l w.heap.size (w.alloc (.cells #[.int .i64 args, .int .i64 regs, .slice BA bs.length c] 24)) := ⟨hb0, Row.new _ _ _, hbs.below hb0, hls.below hb0⟩
  have hbl2 : bs.length ≤ maxLen := Nat.le_trans hbl hbm
  have hnm : len1 ≤ maxLen := Nat.le_trans hlc hcm
  have HLI := Lib.hid hli
  have HBW := Lib.hid hbw
  have HLL := Lib.hid hll
  have hnm2 : len1 ≤ 9223372036854775807 := by unfold maxLen at hnm; omega
  clear hb0 hls hbs w1 hwa hwr hbl hbm hlc hcm hli hbw hll
  go_enter Try.func7, Try.ntmps7
  go_wp2_with fail
  refine (awake_any _).mono ?_
  rintro e W1 ⟨rfl, hb⟩
  have hL1 := hL0.next hb
  clear hb hL0
  have d0 := hL1.f.cell 0; have d1 := hL1.f.cell 1; have d2 := hL1.f.cell 2
  simp only [List.getElem?_toArray, List.getElem?_cons_zero, List.getElem?_cons_succ] at d0 d1 d2
  have HL1 := Lib.hid hL1
  clear hL1
  go_wp2_with fail
  refine (right_any w.heap.size BA a1 bs c len1 cap1 args regs 0 W1 HL1.out.b HL1.out.below.size hbl2 hnm).mono ?_
  rintro e W2 ⟨⟨b, rfl, hf⟩, hb⟩
  have hL2 := HL1.out.next hb
  have d0 := hL2.f.cell 0; have d1 := hL2.f.cell 1; have d2 := hL2.f.cell 2
  simp only [List.getElem?_toArray, List.getElem?_cons_zero, List.getElem?_cons_succ] at d0 d1 d2
  clear hb HL1 hbl2
  cases b
  · clear hf
    go_wp2_with fail
    refine (awake_any _).mono ?_
    rintro e W3 ⟨rfl, hb⟩
    have HB3 := Lib.hid (hL2.next hb).below
    clear hb hL2 d0 d1 d2
    go_wp2
    go_ret
    exact ⟨rfl, HB3.out⟩
  · obtain ⟨⟨hq1, hq2, hq3⟩, hE, hfu, hna⟩ := hf rfl
    obtain ⟨n, rfl, ha0, ha1, hF⟩ := eF_ok hE HBW.out
    clear hf hE
    have hz0 : w.heap.size < W2.heap.size := hL2.f.lt
    have HL2 := Lib.hid hL2
    have HF := Lib.hid hF
    clear hL2 hF
    by_cases hlen : (len1 : Int) = args
    · subst hlen
      obtain rfl : l.length = len1 := HLL.out
      have hln : l.length ≤ n := by omega
      have hn9 : n ≤ 1000 := by have := hq2; omega
      have hc9 : codeN bs ≤ 1000000 := by omega
      have hm9 : bs.length ≤ 1000 := by omega
      clear ha0 ha1 hfu hna hq1 hq2 hq3
      obtain ⟨i0, hi, hz0', hz1, hz2⟩ := info_parts infoI64
      have hs3 := (HL2.out.a).alloc HL2.out.below.size (.cells #[] 2)
      go_wp2_with (at_builtin; refine wpList_append_sees _ rfl (.tmp 32) (.tmp 33) 25 rfl W2.heap.size 2 i0 (.int .i64 0) 8 Try.underlying25 hi hz0' hz1 hz2 rfl _ _ _ rfl (own_empty W2 2 1) w.heap.size _ _ _ (ints l) rfl hs3 (ints_length _) (ints_one _) ?k1 ?k2 ?k3 ?_)
      case k1 => unfold maxLen; omega
      case k2 => omega
      case k3 => simp
      intro v3 W3 ho3 hg3
      obtain ⟨A0, c0, rfl, ho3, hb3⟩ := app_new rfl ho3 hg3
      have HL3 := Lib.hid (HL2.out.next hb3)
      have HO3 := Lib.hid (sees_own ho3)
      clear hg3 hs3 ho3 hb3 HL2 d0 d1 d2
      have CE := Lib.hid (exec_any l n bs W3.heap.size BA A0 c c0 ((f2 : Int) % 60) W3 HO3.out (HL3.out.b.more HL3.out.below.size) (Nat.le_refl _) hn9 hln HF.out HLI.out hc9 hm9 (by omega))
      have hgood := run_good HF.out (start_good HF.out hln HLI.out) ((f2 : Int) % 60).toNat
      have hsteps := (run_steps bs (rn0 n l) ((f2 : Int) % 60).toNat).1
      have hs0 : (rn0 n l).steps = 0 := rfl
      rw [hs0, Nat.zero_add] at hsteps
      have hst9 : (runR bs (rn0 n l) ((f2 : Int) % 60).toNat).steps ≤ 1000 := by omega
      generalize hr : runR bs (rn0 n l) ((f2 : Int) % 60).toNat = r at *
      have hrl9 : r.regs.length ≤ 1000000 := by rw [hgood.len]; omega
      have htr9 : r.trace.length ≤ 1000000 := by have := hgood.tr; omega
      have CI := Lib.hid fun lo RC SC TC re se te W (h : LW w (l.length : Int) (n : Int) BA bs c a1 l w.heap.size W) (hv : RunV W lo RC re TC te r) => stepi_any bs r w.heap.size lo (l.length : Int) (n : Int) RC SC TC BA re se te c W hv h.b h.below.size (by rw [hgood.len]; exact HF.out) (by rw [hgood.len]; exact hgood) (by omega) hrl9 hc9 hm9
      generalize hss : stepR bs r = s at *
      clear hr hss hgood hsteps hs0 hst9
      have d0 := HL3.out.f.cell 0; have d1 := HL3.out.f.cell 1; have d2 := HL3.out.f.cell 2
      simp only [List.getElem?_toArray, List.getElem?_cons_zero, List.getElem?_cons_succ] at d0 d1 d2
      have hz3 : w.heap.size < W3.heap.size := HL3.out.f.lt
      go_wp2_with fail
      refine CE.out.mono ?_
      rintro e W4 ⟨RA, rc, SA, sc, TA, tc, rfl, hv, hb⟩
      have hba := (Below.refl W4.heap.size W4).alloc (Nat.le_refl _) (.cells #[.int .i64 r.st, .int .i64 (r.blk : Int), .int .i64 (r.pos : Int), .int .i64 r.val, .slice RA r.regs.length rc, .slice SA 0 sc, .slice TA r.trace.length tc, .int .i64 (r.steps : Int)] 29)
      have hbb := hb.trans (hba.mono hb.size)
      have HL5 := Lib.hid (HL3.out.next hbb)
      have HO5 := Lib.hid (HO3.out.below hbb)
      have HR5 := Lib.hid (Row.new W4 29 #[.int .i64 r.st, .int .i64 (r.blk : Int), .int .i64 (r.pos : Int), .int .i64 r.val, .slice RA r.regs.length rc, .slice SA 0 sc, .slice TA r.trace.length tc, .int .i64 (r.steps : Int)])
      have HV5 := Lib.hid (hv.below hba)
      have hz35 : W3.heap.size ≤ (W4.alloc (.cells #[.int .i64 r.st, .int .i64 (r.blk : Int), .int .i64 (r.pos : Int), .int .i64 r.val, .slice RA r.regs.length rc, .slice SA 0 sc, .slice TA r.trace.length tc, .int .i64 (r.steps : Int)] 29)).heap.size := hbb.size
      clear hb hv hba hbb HL3 HO3 CE d0 d1 d2
      generalize hb0 : W3.heap.size = b0 at *
      clear hb0
      go_upto_region 5 with fail
      generalize W4.alloc (.cells #[.int .i64 r.st, .int .i64 (r.blk : Int), .int .i64 (r.pos : Int), .int .i64 r.val, .slice RA r.regs.length rc, .slice SA 0 sc, .slice TA r.trace.length tc, .int .i64 (r.steps : Int)] 29) = W5 at *
      generalize W4.heap.size = z8 at *
      have s0 := HR5.out.cell 0; have s1 := HR5.out.cell 1; have s2 := HR5.out.cell 2; have s3 := HR5.out.cell 3; have s4 := HR5.out.cell 4; have s5 := HR5.out.cell 5; have s6 := HR5.out.cell 6; have s7 := HR5.out.cell 7
      simp only [List.getElem?_toArray, List.getElem?_cons_zero, List.getElem?_cons_succ] at s0 s1 s2 s3 s4 s5 s6 s7
      go_wp2_with fail
      refine (rcopyr_any r W5.heap.size RA SA TA rc sc tc W5 HV5.out.srs HV5.out.str (Nat.le_refl _) hrl9 htr9).mono ?_
      rintro e W6 ⟨RB, rd, SB, sd, TB, td, rfl, hv, hb⟩
      have hba := (Below.refl W6.heap.size W6).alloc (Nat.le_refl _) (.cells #[.int .i64 r.st, .int .i64 (r.blk : Int), .int .i64 (r.pos : Int), .int .i64 r.val, .slice RB r.regs.length rd, .slice SB 0 sd, .slice TB r.trace.length td, .int .i64 (r.steps : Int)] 29)
      have hbb := hb.trans (hba.mono hb.size)
      have HL7 := Lib.hid (HL5.out.next hbb)
      have HO7 := Lib.hid (HO5.out.below (hbb.mono hz35))
      have HR7 := Lib.hid (HR5.out.below hbb HR5.out.lt)
      have HV7 := Lib.hid (HV5.out.below hbb)
      have HQ7 := Lib.hid (And.intro (Row.new W6 29 #[.int .i64 r.st, .int .i64 (r.blk : Int), .int .i64 (r.pos : Int), .int .i64 r.val, .slice RB r.regs.length rd, .slice SB 0 sd, .slice TB r.trace.length td, .int .i64 (r.steps : Int)]) ((hv.base hz35).below hba))
      have hz37 : b0 ≤ (W6.alloc (.cells #[.int .i64 r.st, .int .i64 (r.blk : Int), .int .i64 (r.pos : Int), .int .i64 r.val, .slice RB r.regs.length rd, .slice SB 0 sd, .slice TB r.trace.length td, .int .i64 (r.steps : Int)] 29)).heap.size := Nat.le_trans hz35 hbb.size
      clear hb hv hba hbb HL5 HO5 HR5 HV5 s0 s1 s2 s3 s4 s5 s6 s7
      go_upto_region 6 with fail
      generalize W6.alloc (.cells #[.int .i64 r.st, .int .i64 (r.blk : Int), .int .i64 (r.pos : Int), .int .i64 r.val, .slice RB r.regs.length rd, .slice SB 0 sd, .slice TB r.trace.length td, .int .i64 (r.steps : Int)] 29) = W7 at *
      generalize W6.heap.size = z10 at *
      have d0 := HL7.out.f.cell 0; have d1 := HL7.out.f.cell 1; have d2 := HL7.out.f.cell 2
      have s0 := HR7.out.cell 0; have s1 := HR7.out.cell 1; have s2 := HR7.out.cell 2; have s3 := HR7.out.cell 3; have s4 := HR7.out.cell 4; have s5 := HR7.out.cell 5; have s6 := HR7.out.cell 6; have s7 := HR7.out.cell 7
      simp only [List.getElem?_toArray, List.getElem?_cons_zero, List.getElem?_cons_succ] at d0 d1 d2 s0 s1 s2 s3 s4 s5 s6 s7
      go_wp2_with fail
      refine (CI.out b0 RA SA TA rc sc tc W7 HL7.out HV7.out).mono ?_
      rintro e W8 ⟨RC, re, SC, se, TC, te, rfl, hv, hb⟩
      have hba := (Below.refl W8.heap.size W8).alloc (Nat.le_refl _) (.cells #[.int .i64 s.st, .int .i64 (s.blk : Int), .int .i64 (s.pos : Int), .int .i64 s.val, .slice RC s.regs.length re, .slice SC 0 se, .slice TC s.trace.length te, .int .i64 (s.steps : Int)] 29)
      have HB9 := Lib.hid (hb.trans (hba.mono hb.size))
      have HR9 := Lib.hid (Row.new W8 29 #[.int .i64 s.st, .int .i64 (s.blk : Int), .int .i64 (s.pos : Int), .int .i64 s.val, .slice RC s.regs.length re, .slice SC 0 se, .slice TC s.trace.length te, .int .i64 (s.steps : Int)])
      have HV9 := Lib.hid (hv.below hba)
      clear hb hv hba CI d0 d1 d2 s0 s1 s2 s3 s4 s5 s6 s7
      go_upto_region 7 with fail
      generalize W8.alloc (.cells #[.int .i64 s.st, .int .i64 (s.blk : Int), .int .i64 (s.pos : Int), .int .i64 s.val, .slice RC s.regs.length re, .slice SC 0 se, .slice TC s.trace.length te, .int .i64 (s.steps : Int)] 29) = W9 at *
      generalize W8.heap.size = z11 at *
      have hns : s.regs.length ≤ 9223372036854775807 := Nat.le_trans (own_len HV9.out.regs).1 (own_len HV9.out.regs).2
      have hms : s.trace.length ≤ 9223372036854775807 := Nat.le_trans (own_len HV9.out.trace).1 (own_len HV9.out.trace).2
      have HNE := Lib.hid HV9.out.ne
      have HOR9 := Lib.hid HV9.out.regs
      have HOT9 := Lib.hid HV9.out.trace
      clear HV9
      go_wp2
      go_loopg [12] s.regs.length (fun g s12 wr => ∃ (k : Nat) (ls : List Int), k + g = s.regs.length ∧ s12 = .int .i64 k ∧ ls.length = s.regs.length ∧ Hid (wr.ownsRow W7.heap.size 2 1 (.slice RC s.regs.length re) s.regs.length (ints ls)) ∧ Hid (wr.ownsRow W7.heap.size 2 1 (.slice TC s.trace.length te) s.trace.length (ints s.trace)) ∧ Hid (Row wr z11 29 #[.int .i64 s.st, .int .i64 (s.blk : Int), .int .i64 (s.pos : Int), .int .i64 s.val, .slice RC s.regs.length re, .slice SC 0 se, .slice TC s.trace.length te, .int .i64 (s.steps : Int)]) ∧ Hid (Below W7.heap.size W7 wr))
      case atStart => exact ⟨0, s.regs, by omega, rfl, rfl, HOR9.out, HOT9.out, HR9.out, HB9.out⟩
      case round =>
        obtain ⟨k, ls, hk, rfl, hls, HOR, HOT, HRW, HBW⟩ := hrel
        clear HOR9 HOT9 HR9 HB9
        have f4 := HRW.out.cell 4; have f6 := HRW.out.cell 6
        simp only [List.getElem?_toArray, List.getElem?_cons_zero, List.getElem?_cons_succ] at f4 f6
        cases gk with
        | succ g =>
          have hlt : k < ls.length := by omega
          have hlt2 : (k : Int) < (s.regs.length : Int) := by omega
          have HK := Lib.hid (And.intro hk hls)
          obtain ⟨gb, rfl, hcell⟩ := regs_at HOR.out hlt
          have hfr := own_frozen HOR.out (g := gb) (k := k) rfl
          have hgz : ¬ gb = z11 := own_row_ne HOR.out HRW.out (by decide) gb rfl
          have hgl := (ownS_lt HOR.out gb rfl).1
          clear hk hls
          generalize rg ls (k : Int) = x at *
          go_wp2
          go_roundg g
          case measure => omega
          case rel =>
            refine ⟨k + 1, ls.set k (wrap64 (x + 1)), by have := HK.out.1; omega, by go_num, by rw [List.length_set]; exact HK.out.2, ?q2, ?q3, HRW.out.far (q := ⟨gb, k, none⟩) (fun e => hgz e.symm) _, HBW.out.setCell (p := ⟨gb, k, none⟩) hgl _⟩
            case q2 =>
              rw [Hid, ints_set]
              exact ownS_put HOR.out (g := gb) rfl (j := k) (by rw [ints_length]; exact hlt) _
            case q3 => exact ((Mods.refl (Is gb) _).put k _).ownS HOT.out fun j hj hs => HNE.out gb rfl (by unfold Is at hs; rw [hj, hs])
        | zero =>
          obtain rfl : k = s.regs.length := by omega
          clear HOR hls hk HNE
          go_wp2
          obtain ⟨W10, hW10⟩ : ∃ x, x = wr := ⟨_, rfl⟩
          subst hW10
          go_loopg [13] s.trace.length (fun g s13 wx => ∃ (k : Nat) (ls : List Int), k + g = s.trace.length ∧ s13 = .int .i64 k ∧ ls.length = s.trace.length ∧ Hid (wx.ownsRow W7.heap.size 2 1 (.slice TC s.trace.length te) s.trace.length (ints ls)) ∧ Hid (Row wx z11 29 #[.int .i64 s.st, .int .i64 (s.blk : Int), .int .i64 (s.pos : Int), .int .i64 s.val, .slice RC s.regs.length re, .slice SC 0 se, .slice TC s.trace.length te, .int .i64 (s.steps : Int)]) ∧ Hid (Below W7.heap.size W7 wx))
          case atStart => exact ⟨0, s.trace, by omega, rfl, rfl, HOT.out, HRW.out, HBW.out⟩
          case round =>
            obtain ⟨k, ls, hk, rfl, hls, HOS, HRX, HBX⟩ := hrel
            clear HOT HRW HBW f4 f6
            have f6 := HRX.out.cell 6
            simp only [List.getElem?_toArray, List.getElem?_cons_zero, List.getElem?_cons_succ] at f6
            cases gk with
            | succ g =>
              have hlt : k < ls.length := by omega
              have hlt2 : (k : Int) < (s.trace.length : Int) := by omega
              have HK := Lib.hid (And.intro hk hls)
              obtain ⟨gb, rfl, hcell⟩ := regs_at HOS.out hlt
              have hfr := own_frozen HOS.out (g := gb) (k := k) rfl
              have hgz : ¬ gb = z11 := own_row_ne HOS.out HRX.out (by decide) gb rfl
              have hgl := (ownS_lt HOS.out gb rfl).1
              clear hk hls
              generalize rg ls (k : Int) = x at *
              go_wp2
              go_roundg g
              case measure => omega
              case rel =>
                refine ⟨k + 1, ls.set k (wrap64 (x + 1)), by have := HK.out.1; omega, by go_num, by rw [List.length_set]; exact HK.out.2, ?q2, HRX.out.far (q := ⟨gb, k, none⟩) (fun e => hgz e.symm) _, HBX.out.setCell (p := ⟨gb, k, none⟩) hgl _⟩
                case q2 =>
                  rw [Hid, ints_set]
                  exact ownS_put HOS.out (g := gb) rfl (j := k) (by rw [ints_length]; exact hlt) _
            | zero =>
              obtain rfl : k = s.trace.length := by omega
              clear HOS hls hk
              have hr8 := HR7.out.below HBX.out HR7.out.lt
              have hr10 := HQ7.out.1.below HBX.out HQ7.out.1.lt
              have hv8 := HV7.out.below HBX.out
              have hv10 := HQ7.out.2.below HBX.out
              have s0 := hr8.cell 0; have s1 := hr8.cell 1; have s2 := hr8.cell 2; have s3 := hr8.cell 3; have s4 := hr8.cell 4; have s5 := hr8.cell 5; have s6 := hr8.cell 6; have s7 := hr8.cell 7
              have t0 := hr10.cell 0; have t1 := hr10.cell 1; have t2 := hr10.cell 2; have t3 := hr10.cell 3; have t4 := hr10.cell 4; have t5 := hr10.cell 5; have t6 := hr10.cell 6; have t7 := hr10.cell 7
              simp only [List.getElem?_toArray, List.getElem?_cons_zero, List.getElem?_cons_succ] at s0 s1 s2 s3 s4 s5 s6 s7 t0 t1 t2 t3 t4 t5 t6 t7
              have C6 := Lib.hid (same_any r wr.heap.size RA SA TA RB SB TB rc sc tc rd sd td wr hv8.srs hv10.srs hv8.str hv10.str (Nat.le_refl _) (Nat.le_trans (own_len hv8.regs).1 (own_len hv8.regs).2) (Nat.le_trans (own_len hv8.trace).1 (own_len hv8.trace).2))
              have hnr : r.regs.length ≤ 9223372036854775807 := Nat.le_trans (own_len hv8.regs).1 (own_len hv8.regs).2
              have HV8 := Lib.hid hv8
              have HR8 := Lib.hid hr8
              clear hr8 hr10 hv8 hv10
              go_wp2_with fail
              refine C6.out.mono ?_
              rintro e W12 ⟨rfl, hb⟩
              have HOR12 := Lib.hid (HV8.out.below hb).regs
              have HR12 := Lib.hid (HR8.out.below hb HR8.out.lt)
              have HB12 := Lib.hid ((HBX.out.trans (hb.mono HBX.out.size)).mono hz37)
              clear hb HV8 HR8 C6 HBX HRX f6 s0 s1 s2 s3 s4 s5 s6 s7 t0 t1 t2 t3 t4 t5 t6 t7
              go_wp2
              go_loopg [15] r.regs.length (fun g s15 wy => ∃ (k : Nat) (ls : List Int), k + g = r.regs.length ∧ s15 = .int .i64 k ∧ ls.length = r.regs.length ∧ Hid (wy.ownsRow b0 2 1 (.slice RA r.regs.length rc) r.regs.length (ints ls)) ∧ Hid (Row wy z8 29 #[.int .i64 r.st, .int .i64 (r.blk : Int), .int .i64 (r.pos : Int), .int .i64 r.val, .slice RA r.regs.length rc, .slice SA 0 sc, .slice TA r.trace.length tc, .int .i64 (r.steps : Int)]) ∧ Hid (Below b0 W7 wy))
              case atStart => exact ⟨0, r.regs, by omega, rfl, rfl, HOR12.out, HR12.out, HB12.out⟩
              case round =>
                obtain ⟨k, ls, hk, rfl, hls, HOS, HRX, HBX⟩ := hrel
                clear HOR12 HR12 HB12
                have f4 := HRX.out.cell 4
                simp only [List.getElem?_toArray, List.getElem?_cons_zero, List.getElem?_cons_succ] at f4
                cases gk with
                | succ g =>
                  have hlt : k < ls.length := by omega
                  have hlt2 : (k : Int) < (r.regs.length : Int) := by omega
                  have HK := Lib.hid (And.intro hk hls)
                  obtain ⟨gb, rfl, hcell⟩ := regs_at HOS.out hlt
                  have hfr := own_frozen HOS.out (g := gb) (k := k) rfl
                  have hgz : ¬ gb = z8 := own_row_ne HOS.out HRX.out (by decide) gb rfl
                  have hgl := (ownS_lt HOS.out gb rfl).1
                  clear hk hls
                  generalize rg ls (k : Int) = x at *
                  go_wp2
                  go_roundg g
                  case measure => omega
                  case rel =>
                    refine ⟨k + 1, ls.set k (wrap64 (x + 1)), by have := HK.out.1; omega, by go_num, by rw [List.length_set]; exact HK.out.2, ?q2, HRX.out.far (q := ⟨gb, k, none⟩) (fun e => hgz e.symm) _, HBX.out.setCell (p := ⟨gb, k, none⟩) hgl _⟩
                    case q2 =>
                      rw [Hid, ints_set]
                      exact ownS_put HOS.out (g := gb) rfl (j := k) (by rw [ints_length]; exact hlt) _
                | zero =>
                  obtain rfl : k = r.regs.length := by omega
                  clear HOS hls hk
                  have hwb : w.heap.size ≤ b0 := by omega
                  have K9 := Lib.hid (vals_at (W := wr) b0 l l.length c0 cap1 rfl (HO7.out.below HBX.out) ((HL7.out.a.below (HBX.out.mono hwb)).more hwb) hnm)
                  have HB9 := Lib.hid (HL7.out.below.trans (HBX.out.mono hwb))
                  go_wp2_with fail
                  refine K9.out.mono ?_
                  rintro e W14 ⟨rfl, q1, rfl⟩
                  go_wp2
                  go_ret
                  exact ⟨rfl, blw_drewN HB9.out _⟩
    · have hle : ((len1 : Int) != args) = true := by simp [hlen]
      clear hlen
      go_wp2_with fail
      refine (awake_any _).mono ?_
      rintro e W3 ⟨rfl, hb⟩
      have HB3 := Lib.hid (HL2.out.next hb).below
      clear hb HL2 d0 d1 d2
      go_wp2
      go_ret
      exact ⟨rfl, HB3.out⟩

end Go.Proofs.Ytfkknebjhcafhaa
