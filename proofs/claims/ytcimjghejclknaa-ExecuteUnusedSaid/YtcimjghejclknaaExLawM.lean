/-
  The walk of the statement that layer 10 returns what the reference returns.
-/
import Derived.Test.YtcimjghejclknaaExAwake
namespace Go.Proofs.Ytcimjghejclknaa
open Go.RowKit
set_option linter.unusedVariables false
set_option linter.unusedSimpArgs false

/-- What the statements of layer 10 carry from call to call: the function's box and blocks, the arguments. -/
structure XLW (w : World) (args regs slots : Int) (BA : Option Addr) (bs : List MBlk) (c : Nat) (AA : Option Addr) (l : List Int) (hb : Nat) (W : World) : Prop where
  below : Below w.heap.size w W
  f : Row W hb 24 #[.int .i64 args, .int .i64 regs, .int .i64 slots, .slice BA bs.length c]
  b : MBlksAt W w.heap.size BA bs
  a : Sees W w.heap.size AA (ints l)
theorem XLW.next {w : World} {args regs slots : Int} {BA : Option Addr} {bs : List MBlk} {c : Nat} {AA : Option Addr} {l : List Int} {hb : Nat} {W W' : World} (h : XLW w args regs slots BA bs c AA l hb W) (hw : Below W.heap.size W W') : XLW w args regs slots BA bs c AA l hb W' :=
  ⟨h.below.trans (hw.mono h.below.size), h.f.below hw h.f.lt, h.b.below (hw.mono h.below.size), h.a.below (hw.mono h.below.size)⟩

abbrev Xs := List (Option Addr × Nat × Option Addr × Nat × Option Addr × Nat × Xn)
/-- The runs of which the slices are known. -/
def XsAt (w : World) (vs : Xs) (W : World) : Prop := ∀ v ∈ vs, XV W w.heap.size v.1 v.2.1 v.2.2.1 v.2.2.2.1 v.2.2.2.2.1 v.2.2.2.2.2.1 v.2.2.2.2.2.2
theorem XsAt.next {w W W' : World} {vs : Xs} (h : XsAt w vs W) (hb : Below W.heap.size W W') : XsAt w vs W' := fun v hv => (h v hv).below hb
/-- What the last line carries: the runs' boxes, and the runs of which the slices are known. -/
structure GX (w : World) (args regs slots : Int) (BA : Option Addr) (bs : List MBlk) (c : Nat) (AA : Option Addr) (l : List Int) (z7 z9 z11 : Nat) (r s : Xn) (RA : Option Addr) (rc : Nat) (SA : Option Addr) (sc : Nat) (TA : Option Addr) (tc : Nat) (RB : Option Addr) (rd : Nat) (SB : Option Addr) (sd : Nat) (TB : Option Addr) (td : Nat) (RC : Option Addr) (re : Nat) (SC : Option Addr) (se : Nat) (TC : Option Addr) (te : Nat) (vs : Xs) (W : World) : Prop where
  lw : XLW w args regs slots BA bs c AA l w.heap.size W
  r7 : Row W z7 29 #[.int .i64 r.st, .int .i64 (r.blk : Int), .int .i64 (r.pos : Int), .int .i64 r.val, .slice RA r.regs.length rc, .slice SA r.slots.length sc, .slice TA r.trace.length tc, .int .i64 (r.steps : Int)]
  r9 : Row W z9 29 #[.int .i64 s.st, .int .i64 (s.blk : Int), .int .i64 (s.pos : Int), .int .i64 s.val, .slice RB s.regs.length rd, .slice SB s.slots.length sd, .slice TB s.trace.length td, .int .i64 (s.steps : Int)]
  r11 : Row W z11 29 #[.int .i64 r.st, .int .i64 (r.blk : Int), .int .i64 (r.pos : Int), .int .i64 r.val, .slice RC r.regs.length re, .slice SC r.slots.length se, .slice TC r.trace.length te, .int .i64 (r.steps : Int)]
  v7 : XV W w.heap.size RA rc SA sc TA tc r
  v9 : XV W w.heap.size RB rd SB sd TB td s
  v11 : XV W w.heap.size RC re SC se TC te r
  vs : XsAt w vs W
section
variable {w : World} {args regs slots : Int} {BA : Option Addr} {bs : List MBlk} {c : Nat} {AA : Option Addr} {l : List Int} {z7 z9 z11 : Nat} {r s : Xn} {RA : Option Addr} {rc : Nat} {SA : Option Addr} {sc : Nat} {TA : Option Addr} {tc : Nat} {RB : Option Addr} {rd : Nat} {SB : Option Addr} {sd : Nat} {TB : Option Addr} {td : Nat} {RC : Option Addr} {re : Nat} {SC : Option Addr} {se : Nat} {TC : Option Addr} {te : Nat} {vs : Xs} {W W' : World}
theorem GX.next (h : GX w args regs slots BA bs c AA l z7 z9 z11 r s RA rc SA sc TA tc RB rd SB sd TB td RC re SC se TC te vs W) (hb : Below W.heap.size W W') : GX w args regs slots BA bs c AA l z7 z9 z11 r s RA rc SA sc TA tc RB rd SB sd TB td RC re SC se TC te vs W' :=
  ⟨h.lw.next hb, h.r7.below hb h.r7.lt, h.r9.below hb h.r9.lt, h.r11.below hb h.r11.lt, h.v7.below hb, h.v9.below hb, h.v11.below hb, h.vs.next hb⟩
theorem GX.drewN (h : GX w args regs slots BA bs c AA l z7 z9 z11 r s RA rc SA sc TA tc RB rd SB sd TB td RC re SC se TC te vs W) (n : Nat) : GX w args regs slots BA bs c AA l z7 z9 z11 r s RA rc SA sc TA tc RB rd SB sd TB td RC re SC se TC te vs (W.drewN n) := h.next (blw_drewN (Below.refl _ _) n)
theorem GX.drew (h : GX w args regs slots BA bs c AA l z7 z9 z11 r s RA rc SA sc TA tc RB rd SB sd TB td RC re SC se TC te vs W) : GX w args regs slots BA bs c AA l z7 z9 z11 r s RA rc SA sc TA tc RB rd SB sd TB td RC re SC se TC te vs W.drew := h.drewN 1
theorem GX.add (h : GX w args regs slots BA bs c AA l z7 z9 z11 r s RA rc SA sc TA tc RB rd SB sd TB td RC re SC se TC te vs W) {lo : Nat} {PA QA UA : Option Addr} {pc qc uc : Nat} {t : Xn} (hv : XV W lo PA pc QA qc UA uc t) (hl : w.heap.size ≤ lo) : GX w args regs slots BA bs c AA l z7 z9 z11 r s RA rc SA sc TA tc RB rd SB sd TB td RC re SC se TC te ((PA, pc, QA, qc, UA, uc, t) :: vs) W :=
  ⟨h.lw, h.r7, h.r9, h.r11, h.v7, h.v9, h.v11, by
    intro v hm
    rcases List.mem_cons.1 hm with h1 | h1
    · rw [h1]
      exact hv.base hl
    · exact h.vs v h1⟩
theorem GX.cells {n m : Nat} (h : GX w (l.length : Int) (n : Int) (m : Int) BA bs c AA l z7 z9 z11 r s RA rc SA sc TA tc RB rd SB sd TB td RC re SC se TC te vs W) : W.cell? ⟨w.heap.size, 0, none⟩ = some (.int .i64 (l.length : Int)) ∧ W.cell? ⟨w.heap.size, 1, none⟩ = some (.int .i64 (n : Int)) ∧ W.cell? ⟨w.heap.size, 2, none⟩ = some (.int .i64 (m : Int)) ∧ W.cell? ⟨w.heap.size, 3, none⟩ = some (.slice BA bs.length c) ∧ W.cell? ⟨z7, 0, none⟩ = some (.int .i64 r.st) ∧ W.cell? ⟨z7, 1, none⟩ = some (.int .i64 (r.blk : Int)) ∧ W.cell? ⟨z7, 2, none⟩ = some (.int .i64 (r.pos : Int)) ∧ W.cell? ⟨z7, 3, none⟩ = some (.int .i64 r.val) ∧ W.cell? ⟨z7, 4, none⟩ = some (.slice RA r.regs.length rc) ∧ W.cell? ⟨z7, 5, none⟩ = some (.slice SA r.slots.length sc) ∧ W.cell? ⟨z7, 6, none⟩ = some (.slice TA r.trace.length tc) ∧ W.cell? ⟨z7, 7, none⟩ = some (.int .i64 (r.steps : Int)) ∧ W.cell? ⟨z9, 0, none⟩ = some (.int .i64 s.st) ∧ W.cell? ⟨z9, 1, none⟩ = some (.int .i64 (s.blk : Int)) ∧ W.cell? ⟨z9, 2, none⟩ = some (.int .i64 (s.pos : Int)) ∧ W.cell? ⟨z9, 3, none⟩ = some (.int .i64 s.val) ∧ W.cell? ⟨z9, 4, none⟩ = some (.slice RB s.regs.length rd) ∧ W.cell? ⟨z9, 5, none⟩ = some (.slice SB s.slots.length sd) ∧ W.cell? ⟨z9, 6, none⟩ = some (.slice TB s.trace.length td) ∧ W.cell? ⟨z9, 7, none⟩ = some (.int .i64 (s.steps : Int)) ∧ W.cell? ⟨z11, 0, none⟩ = some (.int .i64 r.st) ∧ W.cell? ⟨z11, 1, none⟩ = some (.int .i64 (r.blk : Int)) ∧ W.cell? ⟨z11, 2, none⟩ = some (.int .i64 (r.pos : Int)) ∧ W.cell? ⟨z11, 3, none⟩ = some (.int .i64 r.val) ∧ W.cell? ⟨z11, 4, none⟩ = some (.slice RC r.regs.length re) ∧ W.cell? ⟨z11, 5, none⟩ = some (.slice SC r.slots.length se) ∧ W.cell? ⟨z11, 6, none⟩ = some (.slice TC r.trace.length te) ∧ W.cell? ⟨z11, 7, none⟩ = some (.int .i64 (r.steps : Int)) :=
  ⟨h.lw.f.cell 0, h.lw.f.cell 1, h.lw.f.cell 2, h.lw.f.cell 3, h.r7.cell 0, h.r7.cell 1, h.r7.cell 2, h.r7.cell 3, h.r7.cell 4, h.r7.cell 5, h.r7.cell 6, h.r7.cell 7, h.r9.cell 0, h.r9.cell 1, h.r9.cell 2, h.r9.cell 3, h.r9.cell 4, h.r9.cell 5, h.r9.cell 6, h.r9.cell 7, h.r11.cell 0, h.r11.cell 1, h.r11.cell 2, h.r11.cell 3, h.r11.cell 4, h.r11.cell 5, h.r11.cell 6, h.r11.cell 7⟩
end

set_option maxRecDepth 100000 in
set_option maxHeartbeats 16000000 in
theorem ExecuteMatchesReference_walk (a0 : Array Value) (a1 : Option Addr) (len1 cap1 : Nat) (z1 : List Int) (a2 a3 : Int) (w : World) (w0 : IsMFn w a0) (w1 : IsRow .i64 w a1 len1 cap1 z1) (w2 : (Lit.int .i64 a2).wf = true) (w3 : (Lit.int .i64 a3).wf = true) :
    Calls Try.prog 3 #[.agg a0, .slice a1 len1 cap1, .int .i64 a2, .int .i64 a3] w fun e w' => e = .returned (.bool true) ∧ Below w.heap.size w w' := by
  obtain ⟨args, regs, slots, BA, bs, c, rfl, hwa, hwr, hws, hbl, hbm, hbs, hbw⟩ := w0
  obtain ⟨l, hll, hli, hls, hlc, hcm⟩ := w1.ints
  have hfit : Fits a3 := i64_of_wf w3
  clear w2 w3
  have hb0 := (Below.refl w.heap.size w).alloc (Nat.le_refl _) (.cells #[.int .i64 args, .int .i64 regs, .int .i64 slots, .slice BA bs.length c] 24)
  have hL0 : XLW w args regs slots BA bs c a1 l w.heap.size (w.alloc (.cells #[.int .i64 args, .int .i64 regs, .int .i64 slots, .slice BA bs.length c] 24)) := ⟨hb0, Row.new _ _ _, hbs.below hb0, hls.below hb0⟩
  have hbl2 : bs.length ≤ maxLen := Nat.le_trans hbl hbm
  have hnm : len1 ≤ maxLen := Nat.le_trans hlc hcm
  have HLI := Lib.hid hli
  have HBW := Lib.hid hbw
  have HLL := Lib.hid hll
  have hnm2 : len1 ≤ 9223372036854775807 := by unfold maxLen at hnm; omega
  clear hb0 hls hbs w1 hwa hwr hws hbl hbm hlc hcm hli hbw hll
  go_enter Try.func3, Try.ntmps3
  go_wp2_with fail
  refine (xawake_any _).mono ?_
  rintro e W1 ⟨rfl, hb⟩
  have hL1 := hL0.next hb
  clear hb hL0
  have d0 := hL1.f.cell 0; have d1 := hL1.f.cell 1; have d2 := hL1.f.cell 2; have d3 := hL1.f.cell 3
  simp only [List.getElem?_toArray, List.getElem?_cons_zero, List.getElem?_cons_succ] at d0 d1 d2 d3
  have HL1 := Lib.hid hL1
  clear hL1
  go_wp2_with fail
  refine (xright_any w.heap.size BA a1 bs c len1 cap1 args regs slots a2 W1 HL1.out.b HL1.out.below.size hbl2 hnm).mono ?_
  rintro e W2 ⟨⟨b, rfl, hf⟩, hb⟩
  have hL2 := HL1.out.next hb
  have d0 := hL2.f.cell 0; have d1 := hL2.f.cell 1; have d2 := hL2.f.cell 2; have d3 := hL2.f.cell 3
  simp only [List.getElem?_toArray, List.getElem?_cons_zero, List.getElem?_cons_succ] at d0 d1 d2 d3
  clear hb HL1 hbl2
  cases b
  · clear hf
    go_wp2_with fail
    refine (xawake_any _).mono ?_
    rintro e W3 ⟨rfl, hb⟩
    have HB3 := Lib.hid (hL2.next hb).below
    clear hb hL2 d0 d1 d2 d3
    go_wp2
    go_ret
    exact ⟨rfl, HB3.out⟩
  · obtain ⟨⟨hq1, hq2, hq2', hq3⟩, hE, hfu, hna⟩ := hf rfl
    obtain ⟨n, m, rfl, rfl, ha0, ha1, hF⟩ := eMF_ok hE HBW.out
    clear hf hE
    have hz0 : w.heap.size < W2.heap.size := hL2.f.lt
    have HL2 := Lib.hid hL2
    have HF := Lib.hid hF
    clear hL2 hF
    by_cases hlen : (len1 : Int) = args
    · subst hlen
      obtain rfl : l.length = len1 := HLL.out
      have hln : l.length ≤ m := by omega
      have hn9 : n ≤ 1000 := by have := hq2; omega
      have hmm9 : m ≤ 1000 := by have := hq2'; omega
      have hc9 : mcodeN bs ≤ 1000000 := by omega
      have hm9 : bs.length ≤ 1000 := by omega
      have hgood := runX_good HF.out (xn0_good HF.out hln HLI.out) a2.toNat
      have hsteps := (runX_steps bs (xn0 n m l) a2.toNat).1
      have hs0 : (xn0 n m l).steps = 0 := rfl
      rw [hs0, Nat.zero_add] at hsteps
      have hst9 : (runX bs (xn0 n m l) a2.toNat).steps ≤ 1000 := by omega
      have CE := Lib.hid fun W (h : XLW w (l.length : Int) (n : Int) (m : Int) BA bs c a1 l w.heap.size W) => xexec_any l n m bs w.heap.size BA a1 c cap1 a2 W h.a h.b h.below.size hn9 hmm9 hln HF.out HLI.out hc9 hm9 (by omega)
      have CS := Lib.hid fun W (h : XLW w (l.length : Int) (n : Int) (m : Int) BA bs c a1 l w.heap.size W) => xstart_any l n m w.heap.size BA a1 bs.length c cap1 W h.a h.below.size hn9 hmm9 hln
      have CRS := Lib.hid fun W (h : XLW w (l.length : Int) (n : Int) (m : Int) BA bs c a1 l w.heap.size W) => xrstart_any l n m w.heap.size BA a1 bs.length c cap1 W h.a h.below.size hn9 hmm9 hln
      have CRE := Lib.hid fun W (h : XLW w (l.length : Int) (n : Int) (m : Int) BA bs c a1 l w.heap.size W) => xrexec_any l n m bs w.heap.size BA a1 c cap1 a2 W h.a h.b h.below.size hn9 hmm9 hln HF.out HLI.out hc9 hm9 (by omega)
      generalize hr : runX bs (xn0 n m l) a2.toNat = r at *
      generalize hs : (xn0 n m l) = s at *
      have hrl9 : r.regs.length ≤ 1000000 := by rw [hgood.lenr]; omega
      have hsl9 : r.slots.length ≤ 1000000 := by rw [hgood.lens]; omega
      have CI := Lib.hid fun RC SC TC re se te W (h : XLW w (l.length : Int) (n : Int) (m : Int) BA bs c a1 l w.heap.size W) (hv : XV W w.heap.size RC re SC se TC te r) => xstepi_any bs r w.heap.size w.heap.size (l.length : Int) (n : Int) (m : Int) RC SC TC BA re se te c W hv h.b h.below.size (by rw [hgood.lenr, hgood.lens]; exact HF.out) (by rw [hgood.lenr, hgood.lens]; exact hgood) (by omega) hrl9 hsl9 hc9 hm9
      have CR := Lib.hid fun RC SC TC re se te W (h : XLW w (l.length : Int) (n : Int) (m : Int) BA bs c a1 l w.heap.size W) (hv : XV W w.heap.size RC re SC se TC te r) => xrstep_any bs r w.heap.size w.heap.size (l.length : Int) (n : Int) (m : Int) RC SC TC BA re se te c W hv h.b h.below.size (by rw [hgood.lenr, hgood.lens]; exact HF.out) (by rw [hgood.lenr, hgood.lens]; exact hgood) (by omega) hrl9 hsl9 hc9 hm9
      have CD := Lib.hid fun (hl : LocOk n m a3) RC SC TC re se te W (hv : XV W w.heap.size RC re SC se TC te r) => read_any r a3 w.heap.size RC SC TC re se te W hv (by rw [hgood.lenr, hgood.lens]; exact hl) hrl9 hsl9
      have CRD := Lib.hid fun (hl : LocOk n m a3) RC SC TC re se te W (hv : XV W w.heap.size RC re SC se TC te r) => rread_any r a3 w.heap.size RC SC TC re se te W hv (by rw [hgood.lenr, hgood.lens]; exact hl) hrl9 hsl9
      generalize hr' : stepX bs r = r' at *
      clear hr hs hr' hgood hsteps hs0 hst9 hrl9 hsl9 ha0 ha1 hfu hna
      go_wp2_with fail
      refine (CE.out W2 HL2.out).mono ?_
      rintro e W3 ⟨RA, rc, SA, sc, TA, tc, rfl, hv, hb⟩
      have hL3 := HL2.out.next hb
      have hv3 := hv.base HL2.out.below.size
      have hba := (Below.refl W3.heap.size W3).alloc (Nat.le_refl _) (.cells #[.int .i64 r.st, .int .i64 (r.blk : Int), .int .i64 (r.pos : Int), .int .i64 r.val, .slice RA r.regs.length rc, .slice SA r.slots.length sc, .slice TA r.trace.length tc, .int .i64 (r.steps : Int)] 29)
      have HR4 := Lib.hid (Row.new W3 29 #[.int .i64 r.st, .int .i64 (r.blk : Int), .int .i64 (r.pos : Int), .int .i64 r.val, .slice RA r.regs.length rc, .slice SA r.slots.length sc, .slice TA r.trace.length tc, .int .i64 (r.steps : Int)])
      have HV4 := Lib.hid (hv3.below hba)
      have HL4 := Lib.hid (hL3.next hba)
      clear hb hv hv3 hba hL3 HL2 d0 d1 d2 d3 hz0 CE
      go_upto_region 4 with fail
      generalize W3.alloc (.cells #[.int .i64 r.st, .int .i64 (r.blk : Int), .int .i64 (r.pos : Int), .int .i64 r.val, .slice RA r.regs.length rc, .slice SA r.slots.length sc, .slice TA r.trace.length tc, .int .i64 (r.steps : Int)] 29) = W4 at *
      generalize W3.heap.size = z7 at *
      have d0 := HL4.out.f.cell 0; have d1 := HL4.out.f.cell 1; have d2 := HL4.out.f.cell 2; have d3 := HL4.out.f.cell 3
      simp only [List.getElem?_toArray, List.getElem?_cons_zero, List.getElem?_cons_succ] at d0 d1 d2 d3
      go_wp2_with fail
      refine (CS.out W4 HL4.out).mono ?_
      rintro e W5 ⟨RB, rd, SB, sd, TB, td, rfl, hv, hb⟩
      have hv5 := hv.base HL4.out.below.size
      have hba := (Below.refl W5.heap.size W5).alloc (Nat.le_refl _) (.cells #[.int .i64 s.st, .int .i64 (s.blk : Int), .int .i64 (s.pos : Int), .int .i64 s.val, .slice RB s.regs.length rd, .slice SB s.slots.length sd, .slice TB s.trace.length td, .int .i64 (s.steps : Int)] 29)
      have HR6 := Lib.hid (And.intro ((HR4.out.below hb HR4.out.lt).below hba (HR4.out.below hb HR4.out.lt).lt) (Row.new W5 29 #[.int .i64 s.st, .int .i64 (s.blk : Int), .int .i64 (s.pos : Int), .int .i64 s.val, .slice RB s.regs.length rd, .slice SB s.slots.length sd, .slice TB s.trace.length td, .int .i64 (s.steps : Int)]))
      have HV6 := Lib.hid (And.intro ((HV4.out.below hb).below hba) (hv5.below hba))
      have HL6 := Lib.hid ((HL4.out.next hb).next hba)
      clear hb hv hv5 hba HL4 HR4 HV4 d0 d1 d2 d3 CS
      go_upto_region 5 with fail
      generalize W5.alloc (.cells #[.int .i64 s.st, .int .i64 (s.blk : Int), .int .i64 (s.pos : Int), .int .i64 s.val, .slice RB s.regs.length rd, .slice SB s.slots.length sd, .slice TB s.trace.length td, .int .i64 (s.steps : Int)] 29) = W6 at *
      generalize W5.heap.size = z9 at *
      have d0 := HL6.out.f.cell 0; have d1 := HL6.out.f.cell 1; have d2 := HL6.out.f.cell 2; have d3 := HL6.out.f.cell 3
      simp only [List.getElem?_toArray, List.getElem?_cons_zero, List.getElem?_cons_succ] at d0 d1 d2 d3
      go_wp2_with fail
      refine (CRE.out W6 HL6.out).mono ?_
      rintro e W7 ⟨RC, re, SC, se, TC, te, rfl, hv, hb⟩
      have hv7 := hv.base HL6.out.below.size
      have hba := (Below.refl W7.heap.size W7).alloc (Nat.le_refl _) (.cells #[.int .i64 r.st, .int .i64 (r.blk : Int), .int .i64 (r.pos : Int), .int .i64 r.val, .slice RC r.regs.length re, .slice SC r.slots.length se, .slice TC r.trace.length te, .int .i64 (r.steps : Int)] 29)
      have hbb := hb.trans (hba.mono hb.size)
      have hG0 : GX w (l.length : Int) (n : Int) (m : Int) BA bs c a1 l z7 z9 W7.heap.size r s RA rc SA sc TA tc RB rd SB sd TB td RC re SC se TC te [] (W7.alloc (.cells #[.int .i64 r.st, .int .i64 (r.blk : Int), .int .i64 (r.pos : Int), .int .i64 r.val, .slice RC r.regs.length re, .slice SC r.slots.length se, .slice TC r.trace.length te, .int .i64 (r.steps : Int)] 29)) :=
        ⟨HL6.out.next hbb, HR6.out.1.below hbb HR6.out.1.lt, HR6.out.2.below hbb HR6.out.2.lt, Row.new _ _ _, HV6.out.1.below hbb, HV6.out.2.below hbb, hv7.below hba, fun v hv => by simp at hv⟩
      have HG0 := Lib.hid hG0
      clear hb hv hv7 hba hbb hG0 HL6 HR6 HV6 d0 d1 d2 d3 CRE
      go_upto_region 8 with fail
      generalize W7.alloc (.cells #[.int .i64 r.st, .int .i64 (r.blk : Int), .int .i64 (r.pos : Int), .int .i64 r.val, .slice RC r.regs.length re, .slice SC r.slots.length se, .slice TC r.trace.length te, .int .i64 (r.steps : Int)] 29) = W8 at *
      generalize W7.heap.size = z11 at *
      have K1 := Lib.hid fun (vs : Xs) W (h : GX w (l.length : Int) (n : Int) (m : Int) BA bs c a1 l z7 z9 z11 r s RA rc SA sc TA tc RB rd SB sd TB td RC re SC se TC te (vs) W) => (xsame_any r W.heap.size RA SA TA RC SC TC rc sc tc re se te W h.v7.srs h.v11.srs h.v7.sts h.v11.sts h.v7.sss h.v11.sss (Nat.le_refl _) h.v7.lens.1 h.v7.lens.2.1 h.v7.lens.2.2).mono fun e w' ⟨he, hb⟩ => (⟨he, h.next hb⟩ : e = _ ∧ GX w (l.length : Int) (n : Int) (m : Int) BA bs c a1 l z7 z9 z11 r s RA rc SA sc TA tc RB rd SB sd TB td RC re SC se TC te (vs) w')
      have K2 := Lib.hid fun (vs : Xs) W (h : GX w (l.length : Int) (n : Int) (m : Int) BA bs c a1 l z7 z9 z11 r s RA rc SA sc TA tc RB rd SB sd TB td RC re SC se TC te (vs) W) => (CRS.out W h.lw).mono fun e w' ⟨PA, pc, QA, qc, UA, uc, he, hv, hb⟩ => (⟨PA, pc, QA, qc, UA, uc, he, (h.next hb).add hv h.lw.below.size⟩ : ∃ PA pc QA qc UA uc, e = Ending.returned (.agg #[.int .i64 s.st, .int .i64 (s.blk : Int), .int .i64 (s.pos : Int), .int .i64 s.val, .slice PA s.regs.length pc, .slice QA s.slots.length qc, .slice UA s.trace.length uc, .int .i64 (s.steps : Int)]) ∧ GX w (l.length : Int) (n : Int) (m : Int) BA bs c a1 l z7 z9 z11 r s RA rc SA sc TA tc RB rd SB sd TB td RC re SC se TC te ((PA, pc, QA, qc, UA, uc, s) :: vs) w')
      have K3 := Lib.hid fun (vs : Xs) PA pc QA qc UA uc W (h : GX w (l.length : Int) (n : Int) (m : Int) BA bs c a1 l z7 z9 z11 r s RA rc SA sc TA tc RB rd SB sd TB td RC re SC se TC te ((PA, pc, QA, qc, UA, uc, s) :: vs) W) => (xsame_any s W.heap.size RB SB TB PA QA UA rd sd td pc qc uc W h.v9.srs (h.vs _ (List.mem_cons_self ..)).srs h.v9.sts (h.vs _ (List.mem_cons_self ..)).sts h.v9.sss (h.vs _ (List.mem_cons_self ..)).sss (Nat.le_refl _) h.v9.lens.1 h.v9.lens.2.1 h.v9.lens.2.2).mono fun e w' ⟨he, hb⟩ => (⟨he, h.next hb⟩ : e = _ ∧ GX w (l.length : Int) (n : Int) (m : Int) BA bs c a1 l z7 z9 z11 r s RA rc SA sc TA tc RB rd SB sd TB td RC re SC se TC te ((PA, pc, QA, qc, UA, uc, s) :: vs) w')
      have K4 := Lib.hid fun (vs : Xs) W (h : GX w (l.length : Int) (n : Int) (m : Int) BA bs c a1 l z7 z9 z11 r s RA rc SA sc TA tc RB rd SB sd TB td RC re SC se TC te (vs) W) => (CI.out RC SC TC re se te W h.lw h.v11).mono fun e w' ⟨PA, pc, QA, qc, UA, uc, he, hv, hb⟩ => (⟨PA, pc, QA, qc, UA, uc, he, (h.next hb).add hv h.lw.below.size⟩ : ∃ PA pc QA qc UA uc, e = Ending.returned (.agg #[.int .i64 r'.st, .int .i64 (r'.blk : Int), .int .i64 (r'.pos : Int), .int .i64 r'.val, .slice PA r'.regs.length pc, .slice QA r'.slots.length qc, .slice UA r'.trace.length uc, .int .i64 (r'.steps : Int)]) ∧ GX w (l.length : Int) (n : Int) (m : Int) BA bs c a1 l z7 z9 z11 r s RA rc SA sc TA tc RB rd SB sd TB td RC re SC se TC te ((PA, pc, QA, qc, UA, uc, r') :: vs) w')
      have K5 := Lib.hid fun (vs : Xs) W (h : GX w (l.length : Int) (n : Int) (m : Int) BA bs c a1 l z7 z9 z11 r s RA rc SA sc TA tc RB rd SB sd TB td RC re SC se TC te (vs) W) => (CR.out RC SC TC re se te W h.lw h.v11).mono fun e w' ⟨PA, pc, QA, qc, UA, uc, he, hv, hb⟩ => (⟨PA, pc, QA, qc, UA, uc, he, (h.next hb).add hv h.lw.below.size⟩ : ∃ PA pc QA qc UA uc, e = Ending.returned (.agg #[.int .i64 r'.st, .int .i64 (r'.blk : Int), .int .i64 (r'.pos : Int), .int .i64 r'.val, .slice PA r'.regs.length pc, .slice QA r'.slots.length qc, .slice UA r'.trace.length uc, .int .i64 (r'.steps : Int)]) ∧ GX w (l.length : Int) (n : Int) (m : Int) BA bs c a1 l z7 z9 z11 r s RA rc SA sc TA tc RB rd SB sd TB td RC re SC se TC te ((PA, pc, QA, qc, UA, uc, r') :: vs) w')
      have K6 := Lib.hid fun (vs : Xs) PA pc QA qc UA uc PB pd QB qd UB ud W (h : GX w (l.length : Int) (n : Int) (m : Int) BA bs c a1 l z7 z9 z11 r s RA rc SA sc TA tc RB rd SB sd TB td RC re SC se TC te ((PB, pd, QB, qd, UB, ud, r') :: (PA, pc, QA, qc, UA, uc, r') :: vs) W) => (xsame_any r' W.heap.size PA QA UA PB QB UB pc qc uc pd qd ud W (h.vs _ (List.mem_cons_of_mem _ (List.mem_cons_self ..))).srs (h.vs _ (List.mem_cons_self ..)).srs (h.vs _ (List.mem_cons_of_mem _ (List.mem_cons_self ..))).sts (h.vs _ (List.mem_cons_self ..)).sts (h.vs _ (List.mem_cons_of_mem _ (List.mem_cons_self ..))).sss (h.vs _ (List.mem_cons_self ..)).sss (Nat.le_refl _) (h.vs _ (List.mem_cons_of_mem _ (List.mem_cons_self ..))).lens.1 (h.vs _ (List.mem_cons_of_mem _ (List.mem_cons_self ..))).lens.2.1 (h.vs _ (List.mem_cons_of_mem _ (List.mem_cons_self ..))).lens.2.2).mono fun e w' ⟨he, hb⟩ => (⟨he, h.next hb⟩ : e = _ ∧ GX w (l.length : Int) (n : Int) (m : Int) BA bs c a1 l z7 z9 z11 r s RA rc SA sc TA tc RB rd SB sd TB td RC re SC se TC te ((PB, pd, QB, qd, UB, ud, r') :: (PA, pc, QA, qc, UA, uc, r') :: vs) w')
      have K7 := Lib.hid fun (hl : LocOk n m a3) W (h : GX w (l.length : Int) (n : Int) (m : Int) BA bs c a1 l z7 z9 z11 r s RA rc SA sc TA tc RB rd SB sd TB td RC re SC se TC te ([]) W) => (CD.out hl RC SC TC re se te W h.v11).mono fun e w' ⟨he, hb⟩ => (⟨he, h.next hb⟩ : e = _ ∧ GX w (l.length : Int) (n : Int) (m : Int) BA bs c a1 l z7 z9 z11 r s RA rc SA sc TA tc RB rd SB sd TB td RC re SC se TC te ([]) w')
      have K8 := Lib.hid fun (hl : LocOk n m a3) W (h : GX w (l.length : Int) (n : Int) (m : Int) BA bs c a1 l z7 z9 z11 r s RA rc SA sc TA tc RB rd SB sd TB td RC re SC se TC te ([]) W) => (CRD.out hl RC SC TC re se te W h.v11).mono fun e w' ⟨he, hb⟩ => (⟨he, h.next hb⟩ : e = _ ∧ GX w (l.length : Int) (n : Int) (m : Int) BA bs c a1 l z7 z9 z11 r s RA rc SA sc TA tc RB rd SB sd TB td RC re SC se TC te ([]) w')
      clear CI CR CRS CD CRD
      have hG := HG0.out
      cases hloc : locS a3 n m
      · have CIN := Lib.hid fun W => rlocin_at a3 n m false W hfit hloc
        obtain ⟨d0, d1, d2, d3, s0, s1, s2, s3, s4, s5, s6, s7, t0, t1, t2, t3, t4, t5, t6, t7, u0, u1, u2, u3, u4, u5, u6, u7⟩ := hG.cells
        clear hloc K7 K8
        go_quiet (exact quietS (CIN.out _))
        have HG8 := Lib.hid (hG.drewN nq)
        clear d0 d1 d2 d3 s0 s1 s2 s3 s4 s5 s6 s7 t0 t1 t2 t3 t4 t5 t6 t7 u0 u1 u2 u3 u4 u5 u6 u7 hG CIN HG0
        generalize W8.drewN nq = W9 at *
        have hG := HG8.out
        clear HG8
        obtain ⟨d0, d1, d2, d3, s0, s1, s2, s3, s4, s5, s6, s7, t0, t1, t2, t3, t4, t5, t6, t7, u0, u1, u2, u3, u4, u5, u6, u7⟩ := hG.cells
        go_wp2_with fail
        go_region_held3 (fun w' => w'.cell? ⟨w.heap.size, 0, none⟩ = some (.int .i64 (l.length : Int)) ∧ w'.cell? ⟨w.heap.size, 1, none⟩ = some (.int .i64 (n : Int)) ∧ w'.cell? ⟨w.heap.size, 2, none⟩ = some (.int .i64 (m : Int)) ∧ w'.cell? ⟨w.heap.size, 3, none⟩ = some (.slice BA bs.length c) ∧ w'.cell? ⟨z7, 0, none⟩ = some (.int .i64 r.st) ∧ w'.cell? ⟨z7, 1, none⟩ = some (.int .i64 (r.blk : Int)) ∧ w'.cell? ⟨z7, 2, none⟩ = some (.int .i64 (r.pos : Int)) ∧ w'.cell? ⟨z7, 3, none⟩ = some (.int .i64 r.val) ∧ w'.cell? ⟨z7, 4, none⟩ = some (.slice RA r.regs.length rc) ∧ w'.cell? ⟨z7, 5, none⟩ = some (.slice SA r.slots.length sc) ∧ w'.cell? ⟨z7, 6, none⟩ = some (.slice TA r.trace.length tc) ∧ w'.cell? ⟨z7, 7, none⟩ = some (.int .i64 (r.steps : Int)) ∧ w'.cell? ⟨z9, 0, none⟩ = some (.int .i64 s.st) ∧ w'.cell? ⟨z9, 1, none⟩ = some (.int .i64 (s.blk : Int)) ∧ w'.cell? ⟨z9, 2, none⟩ = some (.int .i64 (s.pos : Int)) ∧ w'.cell? ⟨z9, 3, none⟩ = some (.int .i64 s.val) ∧ w'.cell? ⟨z9, 4, none⟩ = some (.slice RB s.regs.length rd) ∧ w'.cell? ⟨z9, 5, none⟩ = some (.slice SB s.slots.length sd) ∧ w'.cell? ⟨z9, 6, none⟩ = some (.slice TB s.trace.length td) ∧ w'.cell? ⟨z9, 7, none⟩ = some (.int .i64 (s.steps : Int)) ∧ w'.cell? ⟨z11, 0, none⟩ = some (.int .i64 r.st) ∧ w'.cell? ⟨z11, 1, none⟩ = some (.int .i64 (r.blk : Int)) ∧ w'.cell? ⟨z11, 2, none⟩ = some (.int .i64 (r.pos : Int)) ∧ w'.cell? ⟨z11, 3, none⟩ = some (.int .i64 r.val) ∧ w'.cell? ⟨z11, 4, none⟩ = some (.slice RC r.regs.length re) ∧ w'.cell? ⟨z11, 5, none⟩ = some (.slice SC r.slots.length se) ∧ w'.cell? ⟨z11, 6, none⟩ = some (.slice TC r.trace.length te) ∧ w'.cell? ⟨z11, 7, none⟩ = some (.int .i64 (r.steps : Int))) (first | exact hG.cells | exact hG.drew.cells | exact (hG.drewN _).cells) (first
          | (go_at_call 13; go_must ((first
              | (with_reducible refine (K1.out _ _ (by first | exact hG | exact hG.drew | exact hG.drewN _)).mono ?_)
              | (with_reducible refine (K3.out _ _ _ _ _ _ _ _ (by first | exact hG | exact hG.drew | exact hG.drewN _)).mono ?_)
              | (with_reducible refine (K6.out _ _ _ _ _ _ _ _ _ _ _ _ _ _ (by first | exact hG | exact hG.drew | exact hG.drewN _)).mono ?_)); rintro e W9 ⟨rfl, hG⟩))
          | (go_at_call 18; go_must ((with_reducible refine (K2.out _ _ (by first | exact hG | exact hG.drew | exact hG.drewN _)).mono ?_); rintro e W9 ⟨PA, pc, QA, qc, UA, uc, rfl, hG⟩))
          | (go_at_call 19; go_must ((with_reducible refine (K4.out _ _ (by first | exact hG | exact hG.drew | exact hG.drewN _)).mono ?_); rintro e W9 ⟨PC, pe, QC, qe, UC, ue, rfl, hG⟩))
          | (go_at_call 20; go_must ((with_reducible refine (K5.out _ _ (by first | exact hG | exact hG.drew | exact hG.drewN _)).mono ?_); rintro e W9 ⟨PD, pf, QD, qf, UD, uf, rfl, hG⟩))
          )
        have HB9 := Lib.hid hG.lw.below
        clear hG
        go_wp2
        go_ret
        exact ⟨rfl, HB9.out⟩
      · have hlo := locS_ok hloc
        have CIN := Lib.hid fun W (h : GX w (l.length : Int) (n : Int) (m : Int) BA bs c a1 l z7 z9 z11 r s RA rc SA sc TA tc RB rd SB sd TB td RC re SC se TC te ([]) W) => (rlocin_at a3 n m true W hfit hloc).mono fun e w' ⟨he, hb⟩ => (⟨he, hb ▸ h⟩ : e = _ ∧ GX w (l.length : Int) (n : Int) (m : Int) BA bs c a1 l z7 z9 z11 r s RA rc SA sc TA tc RB rd SB sd TB td RC re SC se TC te ([]) w')
        obtain ⟨d0, d1, d2, d3, s0, s1, s2, s3, s4, s5, s6, s7, t0, t1, t2, t3, t4, t5, t6, t7, u0, u1, u2, u3, u4, u5, u6, u7⟩ := hG.cells
        generalize rdX r a3 = v at *
        clear hloc HG0
        have K7' := Lib.hid (K7.out hlo)
        have K8' := Lib.hid (K8.out hlo)
        clear K7 K8 hlo
        go_region_held3 (fun w' => w'.cell? ⟨w.heap.size, 0, none⟩ = some (.int .i64 (l.length : Int)) ∧ w'.cell? ⟨w.heap.size, 1, none⟩ = some (.int .i64 (n : Int)) ∧ w'.cell? ⟨w.heap.size, 2, none⟩ = some (.int .i64 (m : Int)) ∧ w'.cell? ⟨w.heap.size, 3, none⟩ = some (.slice BA bs.length c) ∧ w'.cell? ⟨z7, 0, none⟩ = some (.int .i64 r.st) ∧ w'.cell? ⟨z7, 1, none⟩ = some (.int .i64 (r.blk : Int)) ∧ w'.cell? ⟨z7, 2, none⟩ = some (.int .i64 (r.pos : Int)) ∧ w'.cell? ⟨z7, 3, none⟩ = some (.int .i64 r.val) ∧ w'.cell? ⟨z7, 4, none⟩ = some (.slice RA r.regs.length rc) ∧ w'.cell? ⟨z7, 5, none⟩ = some (.slice SA r.slots.length sc) ∧ w'.cell? ⟨z7, 6, none⟩ = some (.slice TA r.trace.length tc) ∧ w'.cell? ⟨z7, 7, none⟩ = some (.int .i64 (r.steps : Int)) ∧ w'.cell? ⟨z9, 0, none⟩ = some (.int .i64 s.st) ∧ w'.cell? ⟨z9, 1, none⟩ = some (.int .i64 (s.blk : Int)) ∧ w'.cell? ⟨z9, 2, none⟩ = some (.int .i64 (s.pos : Int)) ∧ w'.cell? ⟨z9, 3, none⟩ = some (.int .i64 s.val) ∧ w'.cell? ⟨z9, 4, none⟩ = some (.slice RB s.regs.length rd) ∧ w'.cell? ⟨z9, 5, none⟩ = some (.slice SB s.slots.length sd) ∧ w'.cell? ⟨z9, 6, none⟩ = some (.slice TB s.trace.length td) ∧ w'.cell? ⟨z9, 7, none⟩ = some (.int .i64 (s.steps : Int)) ∧ w'.cell? ⟨z11, 0, none⟩ = some (.int .i64 r.st) ∧ w'.cell? ⟨z11, 1, none⟩ = some (.int .i64 (r.blk : Int)) ∧ w'.cell? ⟨z11, 2, none⟩ = some (.int .i64 (r.pos : Int)) ∧ w'.cell? ⟨z11, 3, none⟩ = some (.int .i64 r.val) ∧ w'.cell? ⟨z11, 4, none⟩ = some (.slice RC r.regs.length re) ∧ w'.cell? ⟨z11, 5, none⟩ = some (.slice SC r.slots.length se) ∧ w'.cell? ⟨z11, 6, none⟩ = some (.slice TC r.trace.length te) ∧ w'.cell? ⟨z11, 7, none⟩ = some (.int .i64 (r.steps : Int))) (first | exact hG.cells | exact hG.drew.cells | exact (hG.drewN _).cells) (first
          | (go_at_call 15; go_must ((with_reducible refine (CIN.out _ (by first | exact hG | exact hG.drew | exact hG.drewN _)).mono ?_); rintro e W9 ⟨rfl, hG⟩))
          | (go_at_call 16; go_must ((with_reducible refine (K7'.out _ (by first | exact hG | exact hG.drew | exact hG.drewN _)).mono ?_); rintro e W9 ⟨rfl, hG⟩))
          | (go_at_call 17; go_must ((with_reducible refine (K8'.out _ (by first | exact hG | exact hG.drew | exact hG.drewN _)).mono ?_); rintro e W9 ⟨rfl, hG⟩))
          )
        have HG8 := Lib.hid hG
        clear d0 d1 d2 d3 s0 s1 s2 s3 s4 s5 s6 s7 t0 t1 t2 t3 t4 t5 t6 t7 u0 u1 u2 u3 u4 u5 u6 u7 hG CIN K7' K8'
        have hG := HG8.out
        clear HG8
        obtain ⟨d0, d1, d2, d3, s0, s1, s2, s3, s4, s5, s6, s7, t0, t1, t2, t3, t4, t5, t6, t7, u0, u1, u2, u3, u4, u5, u6, u7⟩ := hG.cells
        go_wp2_with fail
        go_region_held3 (fun w' => w'.cell? ⟨w.heap.size, 0, none⟩ = some (.int .i64 (l.length : Int)) ∧ w'.cell? ⟨w.heap.size, 1, none⟩ = some (.int .i64 (n : Int)) ∧ w'.cell? ⟨w.heap.size, 2, none⟩ = some (.int .i64 (m : Int)) ∧ w'.cell? ⟨w.heap.size, 3, none⟩ = some (.slice BA bs.length c) ∧ w'.cell? ⟨z7, 0, none⟩ = some (.int .i64 r.st) ∧ w'.cell? ⟨z7, 1, none⟩ = some (.int .i64 (r.blk : Int)) ∧ w'.cell? ⟨z7, 2, none⟩ = some (.int .i64 (r.pos : Int)) ∧ w'.cell? ⟨z7, 3, none⟩ = some (.int .i64 r.val) ∧ w'.cell? ⟨z7, 4, none⟩ = some (.slice RA r.regs.length rc) ∧ w'.cell? ⟨z7, 5, none⟩ = some (.slice SA r.slots.length sc) ∧ w'.cell? ⟨z7, 6, none⟩ = some (.slice TA r.trace.length tc) ∧ w'.cell? ⟨z7, 7, none⟩ = some (.int .i64 (r.steps : Int)) ∧ w'.cell? ⟨z9, 0, none⟩ = some (.int .i64 s.st) ∧ w'.cell? ⟨z9, 1, none⟩ = some (.int .i64 (s.blk : Int)) ∧ w'.cell? ⟨z9, 2, none⟩ = some (.int .i64 (s.pos : Int)) ∧ w'.cell? ⟨z9, 3, none⟩ = some (.int .i64 s.val) ∧ w'.cell? ⟨z9, 4, none⟩ = some (.slice RB s.regs.length rd) ∧ w'.cell? ⟨z9, 5, none⟩ = some (.slice SB s.slots.length sd) ∧ w'.cell? ⟨z9, 6, none⟩ = some (.slice TB s.trace.length td) ∧ w'.cell? ⟨z9, 7, none⟩ = some (.int .i64 (s.steps : Int)) ∧ w'.cell? ⟨z11, 0, none⟩ = some (.int .i64 r.st) ∧ w'.cell? ⟨z11, 1, none⟩ = some (.int .i64 (r.blk : Int)) ∧ w'.cell? ⟨z11, 2, none⟩ = some (.int .i64 (r.pos : Int)) ∧ w'.cell? ⟨z11, 3, none⟩ = some (.int .i64 r.val) ∧ w'.cell? ⟨z11, 4, none⟩ = some (.slice RC r.regs.length re) ∧ w'.cell? ⟨z11, 5, none⟩ = some (.slice SC r.slots.length se) ∧ w'.cell? ⟨z11, 6, none⟩ = some (.slice TC r.trace.length te) ∧ w'.cell? ⟨z11, 7, none⟩ = some (.int .i64 (r.steps : Int))) (first | exact hG.cells | exact hG.drew.cells | exact (hG.drewN _).cells) (first
          | (go_at_call 13; go_must ((first
              | (with_reducible refine (K1.out _ _ (by first | exact hG | exact hG.drew | exact hG.drewN _)).mono ?_)
              | (with_reducible refine (K3.out _ _ _ _ _ _ _ _ (by first | exact hG | exact hG.drew | exact hG.drewN _)).mono ?_)
              | (with_reducible refine (K6.out _ _ _ _ _ _ _ _ _ _ _ _ _ _ (by first | exact hG | exact hG.drew | exact hG.drewN _)).mono ?_)); rintro e W9 ⟨rfl, hG⟩))
          | (go_at_call 18; go_must ((with_reducible refine (K2.out _ _ (by first | exact hG | exact hG.drew | exact hG.drewN _)).mono ?_); rintro e W9 ⟨PA, pc, QA, qc, UA, uc, rfl, hG⟩))
          | (go_at_call 19; go_must ((with_reducible refine (K4.out _ _ (by first | exact hG | exact hG.drew | exact hG.drewN _)).mono ?_); rintro e W9 ⟨PC, pe, QC, qe, UC, ue, rfl, hG⟩))
          | (go_at_call 20; go_must ((with_reducible refine (K5.out _ _ (by first | exact hG | exact hG.drew | exact hG.drewN _)).mono ?_); rintro e W9 ⟨PD, pf, QD, qf, UD, uf, rfl, hG⟩))
          )
        have HB9 := Lib.hid hG.lw.below
        clear hG
        go_wp2
        go_ret
        exact ⟨rfl, HB9.out⟩
    · have hle : ((len1 : Int) != args) = true := by simp [hlen]
      go_wp2_with fail
      refine (xexec_bad len1 n m BA a1 bs.length c cap1 args a2 W2 hlen hnm).mono ?_
      rintro e W3 ⟨RA, rc, SA, sc, TA, tc, rfl, hv, hb⟩
      have hL3 := HL2.out.next hb
      have hL4 := hL3.next ((Below.refl _ _).alloc (Nat.le_refl _) (.cells #[.int .i64 0, .int .i64 0, .int .i64 0, .int .i64 0, .slice RA 0 rc, .slice SA 0 sc, .slice TA 0 tc, .int .i64 0] 29))
      have HR3 := Lib.hid (Row.new W3 29 #[.int .i64 0, .int .i64 0, .int .i64 0, .int .i64 0, .slice RA 0 rc, .slice SA 0 sc, .slice TA 0 tc, .int .i64 0])
      have HL4 := Lib.hid hL4
      clear hb hv hL3 hL4 HL2 d0 d1 d2 d3 hz0
      go_upto_region 4 with fail
      generalize W3.alloc (.cells #[.int .i64 0, .int .i64 0, .int .i64 0, .int .i64 0, .slice RA 0 rc, .slice SA 0 sc, .slice TA 0 tc, .int .i64 0] 29) = W4 at *
      generalize W3.heap.size = z7 at *
      have d0 := HL4.out.f.cell 0; have d1 := HL4.out.f.cell 1; have d2 := HL4.out.f.cell 2; have d3 := HL4.out.f.cell 3
      simp only [List.getElem?_toArray, List.getElem?_cons_zero, List.getElem?_cons_succ] at d0 d1 d2 d3
      go_wp2_with fail
      refine (xstart_bad len1 n m BA a1 bs.length c cap1 args W4 hlen hnm).mono ?_
      rintro e W5 ⟨RB, rd, SB, sd, TB, td, rfl, hv, hb⟩
      have hL6 := (HL4.out.next hb).next ((Below.refl _ _).alloc (Nat.le_refl _) (.cells #[.int .i64 0, .int .i64 0, .int .i64 0, .int .i64 0, .slice RB 0 rd, .slice SB 0 sd, .slice TB 0 td, .int .i64 0] 29))
      have HR6 := Lib.hid (And.intro ((HR3.out.below hb HR3.out.lt).alloc (.cells #[.int .i64 0, .int .i64 0, .int .i64 0, .int .i64 0, .slice RB 0 rd, .slice SB 0 sd, .slice TB 0 td, .int .i64 0] 29)) (Row.new W5 29 #[.int .i64 0, .int .i64 0, .int .i64 0, .int .i64 0, .slice RB 0 rd, .slice SB 0 sd, .slice TB 0 td, .int .i64 0]))
      have HL6 := Lib.hid hL6
      clear hb hv hL6 HL4 HR3 d0 d1 d2 d3
      go_upto_region 5 with fail
      generalize W5.alloc (.cells #[.int .i64 0, .int .i64 0, .int .i64 0, .int .i64 0, .slice RB 0 rd, .slice SB 0 sd, .slice TB 0 td, .int .i64 0] 29) = W6 at *
      generalize W5.heap.size = z9 at *
      have d0 := HL6.out.f.cell 0
      simp only [List.getElem?_toArray, List.getElem?_cons_zero] at d0
      have s0 := HR6.out.1.cell 0; have s1 := HR6.out.1.cell 1; have s2 := HR6.out.1.cell 2; have s3 := HR6.out.1.cell 3; have s4 := HR6.out.1.cell 4; have s5 := HR6.out.1.cell 5; have s6 := HR6.out.1.cell 6; have s7 := HR6.out.1.cell 7
      simp only [List.getElem?_toArray, List.getElem?_cons_zero, List.getElem?_cons_succ] at s0 s1 s2 s3 s4 s5 s6 s7
      have t0 := HR6.out.2.cell 0; have t1 := HR6.out.2.cell 1; have t2 := HR6.out.2.cell 2; have t3 := HR6.out.2.cell 3; have t4 := HR6.out.2.cell 4; have t5 := HR6.out.2.cell 5; have t6 := HR6.out.2.cell 6; have t7 := HR6.out.2.cell 7
      simp only [List.getElem?_toArray, List.getElem?_cons_zero, List.getElem?_cons_succ] at t0 t1 t2 t3 t4 t5 t6 t7
      have C1 := Lib.hid fun W => xsame_any zrx 0 RA SA TA none none none rc sc tc 0 0 0 W Sees.nil Sees.nil Sees.nil Sees.nil Sees.nil Sees.nil (Nat.zero_le _) (Nat.zero_le _) (Nat.zero_le _) (Nat.zero_le _)
      have C2 := Lib.hid fun W => xsame_any zrx 0 RB SB TB none none none rd sd td 0 0 0 W Sees.nil Sees.nil Sees.nil Sees.nil Sees.nil Sees.nil (Nat.zero_le _) (Nat.zero_le _) (Nat.zero_le _) (Nat.zero_le _)
      clear hlen
      go_wp2_with fail
      refine (C1.out _).mono ?_
      rintro e W7 ⟨rfl, hb⟩
      have HL7 := Lib.hid (HL6.out.next hb)
      have hr7 := HR6.out.2.below hb HR6.out.2.lt
      have t0 := hr7.cell 0; have t1 := hr7.cell 1; have t2 := hr7.cell 2; have t3 := hr7.cell 3; have t4 := hr7.cell 4; have t5 := hr7.cell 5; have t6 := hr7.cell 6; have t7 := hr7.cell 7
      simp only [List.getElem?_toArray, List.getElem?_cons_zero, List.getElem?_cons_succ] at t0 t1 t2 t3 t4 t5 t6 t7
      clear hb hr7 HL6 HR6
      go_wp2_with fail
      refine (C2.out _).mono ?_
      rintro e W8 ⟨rfl, hb⟩
      have HB8 := Lib.hid (HL7.out.next hb).below
      clear hb HL7
      go_wp2
      go_ret
      exact ⟨rfl, HB8.out⟩

end Go.Proofs.Ytcimjghejclknaa
