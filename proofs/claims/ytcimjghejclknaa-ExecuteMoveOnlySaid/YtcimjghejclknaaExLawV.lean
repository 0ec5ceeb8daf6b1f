/-
  The walk of the statement that a move changes at most its destination.
-/
import Derived.Test.YtcimjghejclknaaExLawM
namespace Go.Proofs.Ytcimjghejclknaa
open Go.RowKit
set_option linter.unusedVariables false
set_option linter.unusedSimpArgs false

theorem rg_set_same {l : List Int} {k : Nat} {v : Int} (h : k < l.length) : rg (l.set k v) (k : Int) = v := by
  simp [rg, List.getD, h]
theorem rg_set_other {l : List Int} {k j : Nat} {v : Int} (h : k ≠ j) : rg (l.set k v) (j : Int) = rg l (j : Int) := by
  simp [rg, List.getD, List.getElem?_set_ne h]
theorem rd_put_same {r : Xn} {d v : Int} (h : LocOk r.regs.length r.slots.length d) : rdX (putX r d v) d = v := by
  obtain ⟨h0, ⟨h1, h2⟩ | ⟨h1, h2⟩⟩ := h
  · obtain ⟨k, hk⟩ := Int.eq_ofNat_of_zero_le (show 0 ≤ d / 2 by omega)
    rw [putX, if_pos h1, rdX, if_pos h1, hk, Int.toNat_natCast]
    exact rg_set_same (by omega)
  · obtain ⟨k, hk⟩ := Int.eq_ofNat_of_zero_le (show 0 ≤ d / 2 by omega)
    rw [putX, if_neg (by omega), rdX, if_neg (by omega), hk, Int.toNat_natCast]
    exact rg_set_same (by omega)
theorem rd_put_other {r : Xn} {d l v : Int} {R S R' S' : Nat} (h : LocOk R S d) (hl : LocOk R' S' l) (hn : ¬ l = d) : rdX (putX r d v) l = rdX r l := by
  have h0 := h.1
  have l0 := hl.1
  obtain ⟨k, hk⟩ := Int.eq_ofNat_of_zero_le (show 0 ≤ d / 2 by omega)
  obtain ⟨j, hj⟩ := Int.eq_ofNat_of_zero_le (show 0 ≤ l / 2 by omega)
  rcases putX_ways r d v with ⟨h1, e⟩ | ⟨h1, e⟩
  · rw [e, hk, Int.toNat_natCast]
    unfold rdX
    by_cases h2 : l % 2 = 1
    · rw [if_pos h2, if_pos h2, hj]
      exact rg_set_other (by omega)
    · rw [if_neg h2, if_neg h2]
  · rw [e, hk, Int.toNat_natCast]
    unfold rdX
    by_cases h2 : l % 2 = 1
    · rw [if_pos h2, if_pos h2]
    · rw [if_neg h2, if_neg h2, hj]
      exact rg_set_other (by omega)
/-- What a step that performs a move makes. -/
theorem stepX_move {bs : List MBlk} {r : Xn} {n m : Nat} (hF : OkM n m bs) (hg : GoodX n m bs r) (h0 : r.st = 0) (hp : r.pos < (mblkAt bs r.blk).code.length) (h18 : ((mblkAt bs r.blk).code[r.pos]).op = 18) :
    LocOk n m ((mblkAt bs r.blk).code[r.pos]).dst ∧ LocOk n m ((mblkAt bs r.blk).code[r.pos]).src ∧ (stepX bs r).regs.length = n ∧ (stepX bs r).slots.length = m ∧ (stepX bs r).trace = r.trace ∧ (stepX bs r).steps = r.steps + 1 ∧
    rdX (stepX bs r) ((mblkAt bs r.blk).code[r.pos]).dst = rdX r ((mblkAt bs r.blk).code[r.pos]).src ∧ ∀ l, LocOk n m l → ¬ l = ((mblkAt bs r.blk).code[r.pos]).dst → rdX (stepX bs r) l = rdX r l := by
  have hok := hF.ins _ (mblkAt_mem hg.blk) _ (List.getElem_mem hp)
  have hs := stepX_good hF hg
  have he : stepX bs r = { putX r ((mblkAt bs r.blk).code[r.pos]).dst (rdX r ((mblkAt bs r.blk).code[r.pos]).src) with pos := r.pos + 1, steps := r.steps + 1 } := by
    rw [stepX, if_pos h0, dif_pos hp, xperf, if_pos h18]
  rcases hok with ⟨_, hd, hsrc⟩ | ⟨h1, _⟩ | ⟨h1, _⟩
  · refine ⟨hd, hsrc, hs.lenr, hs.lens, ?_, ?_, ?_, fun l hl hn => ?_⟩
    · rw [he]
      rcases putX_ways r ((mblkAt bs r.blk).code[r.pos]).dst (rdX r ((mblkAt bs r.blk).code[r.pos]).src) with ⟨_, e⟩ | ⟨_, e⟩ <;> rw [e]
    · rw [he]
    · rw [he]
      exact rd_put_same (by rw [hg.lenr, hg.lens]; exact hd)
    · rw [he]
      exact rd_put_other hd hl hn
  · omega
  · exact absurd h18 h1

/-- What the last lines carry: the two runs and the instruction. -/
structure GV (w : World) (args regs slots : Int) (BA : Option Addr) (bs : List MBlk) (c : Nat) (AA : Option Addr) (l : List Int) (z9 z11 z12 : Nat) (r s : Xn) (x : Mi) (RA : Option Addr) (rc : Nat) (SA : Option Addr) (sc : Nat) (TA : Option Addr) (tc : Nat) (RB : Option Addr) (rd : Nat) (SB : Option Addr) (sd : Nat) (TB : Option Addr) (td : Nat) (W : World) : Prop where
  lw : XLW w args regs slots BA bs c AA l w.heap.size W
  r9 : Row W z9 29 #[.int .i64 r.st, .int .i64 (r.blk : Int), .int .i64 (r.pos : Int), .int .i64 r.val, .slice RA r.regs.length rc, .slice SA r.slots.length sc, .slice TA r.trace.length tc, .int .i64 (r.steps : Int)]
  ix : Row W z11 52 #[.int .i64 x.op, .int .i64 x.d, .int .i64 x.a, .int .i64 x.b, .int .i64 x.imm, .int .i64 x.dst, .int .i64 x.src]
  r12 : Row W z12 29 #[.int .i64 s.st, .int .i64 (s.blk : Int), .int .i64 (s.pos : Int), .int .i64 s.val, .slice RB s.regs.length rd, .slice SB s.slots.length sd, .slice TB s.trace.length td, .int .i64 (s.steps : Int)]
  v9 : XV W w.heap.size RA rc SA sc TA tc r
  v12 : XV W w.heap.size RB rd SB sd TB td s
section
variable {w : World} {args regs slots : Int} {BA : Option Addr} {bs : List MBlk} {c : Nat} {AA : Option Addr} {l : List Int} {z9 z11 z12 : Nat} {r s : Xn} {x : Mi} {RA : Option Addr} {rc : Nat} {SA : Option Addr} {sc : Nat} {TA : Option Addr} {tc : Nat} {RB : Option Addr} {rd : Nat} {SB : Option Addr} {sd : Nat} {TB : Option Addr} {td : Nat} {W W' : World}
theorem GV.next (h : GV w args regs slots BA bs c AA l z9 z11 z12 r s x RA rc SA sc TA tc RB rd SB sd TB td W) (hb : Below W.heap.size W W') : GV w args regs slots BA bs c AA l z9 z11 z12 r s x RA rc SA sc TA tc RB rd SB sd TB td W' :=
  ⟨h.lw.next hb, h.r9.below hb h.r9.lt, h.ix.below hb h.ix.lt, h.r12.below hb h.r12.lt, h.v9.below hb, h.v12.below hb⟩
theorem GV.drewN (h : GV w args regs slots BA bs c AA l z9 z11 z12 r s x RA rc SA sc TA tc RB rd SB sd TB td W) (n : Nat) : GV w args regs slots BA bs c AA l z9 z11 z12 r s x RA rc SA sc TA tc RB rd SB sd TB td (W.drewN n) := h.next (blw_drewN (Below.refl _ _) n)
theorem GV.drew (h : GV w args regs slots BA bs c AA l z9 z11 z12 r s x RA rc SA sc TA tc RB rd SB sd TB td W) : GV w args regs slots BA bs c AA l z9 z11 z12 r s x RA rc SA sc TA tc RB rd SB sd TB td W.drew := h.drewN 1
theorem GV.cells {n m : Nat} (h : GV w args (n : Int) (m : Int) BA bs c AA l z9 z11 z12 r s x RA rc SA sc TA tc RB rd SB sd TB td W) : W.cell? ⟨w.heap.size, 1, none⟩ = some (.int .i64 (n : Int)) ∧ W.cell? ⟨w.heap.size, 2, none⟩ = some (.int .i64 (m : Int)) ∧ W.cell? ⟨z11, 5, none⟩ = some (.int .i64 x.dst) ∧ W.cell? ⟨z11, 6, none⟩ = some (.int .i64 x.src) ∧ W.cell? ⟨z9, 0, none⟩ = some (.int .i64 r.st) ∧ W.cell? ⟨z9, 1, none⟩ = some (.int .i64 (r.blk : Int)) ∧ W.cell? ⟨z9, 2, none⟩ = some (.int .i64 (r.pos : Int)) ∧ W.cell? ⟨z9, 3, none⟩ = some (.int .i64 r.val) ∧ W.cell? ⟨z9, 4, none⟩ = some (.slice RA r.regs.length rc) ∧ W.cell? ⟨z9, 5, none⟩ = some (.slice SA r.slots.length sc) ∧ W.cell? ⟨z9, 6, none⟩ = some (.slice TA r.trace.length tc) ∧ W.cell? ⟨z9, 7, none⟩ = some (.int .i64 (r.steps : Int)) ∧ W.cell? ⟨z12, 0, none⟩ = some (.int .i64 s.st) ∧ W.cell? ⟨z12, 1, none⟩ = some (.int .i64 (s.blk : Int)) ∧ W.cell? ⟨z12, 2, none⟩ = some (.int .i64 (s.pos : Int)) ∧ W.cell? ⟨z12, 3, none⟩ = some (.int .i64 s.val) ∧ W.cell? ⟨z12, 4, none⟩ = some (.slice RB s.regs.length rd) ∧ W.cell? ⟨z12, 5, none⟩ = some (.slice SB s.slots.length sd) ∧ W.cell? ⟨z12, 6, none⟩ = some (.slice TB s.trace.length td) ∧ W.cell? ⟨z12, 7, none⟩ = some (.int .i64 (s.steps : Int)) :=
  ⟨h.lw.f.cell 1, h.lw.f.cell 2, h.ix.cell 5, h.ix.cell 6, h.r9.cell 0, h.r9.cell 1, h.r9.cell 2, h.r9.cell 3, h.r9.cell 4, h.r9.cell 5, h.r9.cell 6, h.r9.cell 7, h.r12.cell 0, h.r12.cell 1, h.r12.cell 2, h.r12.cell 3, h.r12.cell 4, h.r12.cell 5, h.r12.cell 6, h.r12.cell 7⟩
end

set_option maxRecDepth 100000 in
set_option maxHeartbeats 16000000 in
theorem ExecuteMoveOnly_walk (a0 : Array Value) (a1 : Option Addr) (len1 cap1 : Nat) (z1 : List Int) (a2 a3 : Int) (w : World) (w0 : IsMFn w a0) (w1 : IsRow .i64 w a1 len1 cap1 z1) (w2 : (Lit.int .u8 a2).wf = true) (w3 : (Lit.int .i64 a3).wf = true) :
    Calls Try.prog 6 #[.agg a0, .slice a1 len1 cap1, .int .u8 a2, .int .i64 a3] w fun e w' => e = .returned (.bool true) ∧ Below w.heap.size w w' := by
  obtain ⟨args, regs, slots, BA, bs, c, rfl, hwa, hwr, hws, hbl, hbm, hbs, hbw⟩ := w0
  obtain ⟨l, hll, hli, hls, hlc, hcm⟩ := w1.ints
  have hu2 := u8_of_wf w2
  obtain ⟨f2, rfl⟩ := Int.eq_ofNat_of_zero_le hu2.1
  have hf2 : f2 ≤ 255 := by omega
  have hfit : Fits a3 := i64_of_wf w3
  clear w2 hu2 w3
  have hb0 := (Below.refl w.heap.size w).alloc (Nat.le_refl _) (.cells #[.int .i64 args, .int .i64 regs, .int .i64 slots, .slice BA bs.length c] 24)
  have hL0 : XLW w args regs slots BA bs c a1 l w.heap.size (w.alloc (.cells #[.int .i64 args, .int .i64 regs, .int .i64 slots, .slice BA bs.length c] 24)) := ⟨hb0, Row.new _ _ _, hbs.below hb0, hls.below hb0⟩
  have hbl2 : bs.length ≤ maxLen := Nat.le_trans hbl hbm
  have hnm : len1 ≤ maxLen := Nat.le_trans hlc hcm
  have HLI := Lib.hid hli
  have HBW := Lib.hid hbw
  have HLL := Lib.hid hll
  have hnm2 : len1 ≤ 9223372036854775807 := by unfold maxLen at hnm; omega
  clear hb0 hls hbs w1 hwa hwr hws hbl hbm hlc hcm hli hbw hll
  go_enter Try.func6, Try.ntmps6
  go_wp2_with fail
  refine (xawake_any _).mono ?_
  rintro e W1 ⟨rfl, hb⟩
  have hL1 := hL0.next hb
  clear hb hL0
  have d0 := hL1.f.cell 0; have d1 := hL1.f.cell 1; have d2 := hL1.f.cell 2; have d3 := hL1.f.cell 3
  simp only [List.getElem?_toArray, List.getElem?_cons_zero, List.getElem?_cons_succ] at d0 d1 d2 d3
  have HL1 := Lib.hid hL1
  clear hL1
  go_wp2_with fail
  refine (xright_any w.heap.size BA a1 bs c len1 cap1 args regs slots 0 W1 HL1.out.b HL1.out.below.size hbl2 hnm).mono ?_
  rintro e W2 ⟨⟨b, rfl, hf⟩, hb⟩
  have hL2 := HL1.out.next hb
  have d0 := hL2.f.cell 0; have d1 := hL2.f.cell 1; have d2 := hL2.f.cell 2; have d3 := hL2.f.cell 3
  simp only [List.getElem?_toArray, List.getElem?_cons_zero, List.getElem?_cons_succ] at d0 d1 d2 d3
  clear hb HL1 hbl2
  cases b
  · clear hf
    go_wp2_with fail
    refine (xawake_any _).mono ?_
    rintro e W3 ⟨rfl, hb⟩
    have HB3 := Lib.hid (hL2.next hb).below
    clear hb hL2 d0 d1 d2 d3
    go_wp2
    go_ret
    exact ⟨rfl, HB3.out⟩
  · obtain ⟨⟨hq1, hq2, hq2', hq3⟩, hE, hfu, hna⟩ := hf rfl
    obtain ⟨n, m, rfl, rfl, ha0, ha1, hF⟩ := eMF_ok hE HBW.out
    clear hf hE
    have hz0 : w.heap.size < W2.heap.size := hL2.f.lt
    have HL2 := Lib.hid hL2
    have HF := Lib.hid hF
    clear hL2 hF
    by_cases hlen : (len1 : Int) = args
    · subst hlen
      obtain rfl : l.length = len1 := HLL.out
      have hln : l.length ≤ m := by omega
      have hn9 : n ≤ 1000 := by have := hq2; omega
      have hmm9 : m ≤ 1000 := by have := hq2'; omega
      have hc9 : mcodeN bs ≤ 1000000 := by omega
      have hm9 : bs.length ≤ 1000 := by omega
      clear ha0 ha1 hfu hna hq1 hq2 hq2' hq3
      have CRE := Lib.hid fun W (h : XLW w (l.length : Int) (n : Int) (m : Int) BA bs c a1 l w.heap.size W) => xrexec_any l n m bs w.heap.size BA a1 c cap1 ((f2 : Int) % 60) W h.a h.b h.below.size hn9 hmm9 hln HF.out HLI.out hc9 hm9 (by omega)
      have hgood := runX_good HF.out (xn0_good HF.out hln HLI.out) ((f2 : Int) % 60).toNat
      have hsteps := (runX_steps bs (xn0 n m l) ((f2 : Int) % 60).toNat).1
      have hs0 : (xn0 n m l).steps = 0 := rfl
      rw [hs0, Nat.zero_add] at hsteps
      have hst9 : (runX bs (xn0 n m l) ((f2 : Int) % 60).toNat).steps ≤ 1000 := by omega
      generalize hr : runX bs (xn0 n m l) ((f2 : Int) % 60).toNat = r at *
      have hrl9 : r.regs.length ≤ 1000000 := by rw [hgood.lenr]; omega
      have hsl9 : r.slots.length ≤ 1000000 := by rw [hgood.lens]; omega
      have CI := Lib.hid fun RC SC TC re se te W (h : XLW w (l.length : Int) (n : Int) (m : Int) BA bs c a1 l w.heap.size W) (hv : XV W w.heap.size RC re SC se TC te r) => xstepi_any bs r w.heap.size w.heap.size (l.length : Int) (n : Int) (m : Int) RC SC TC BA re se te c W hv h.b h.below.size (by rw [hgood.lenr, hgood.lens]; exact HF.out) (by rw [hgood.lenr, hgood.lens]; exact hgood) (by omega) hrl9 hsl9 hc9 hm9
      have HGD := Lib.hid hgood
      clear hr hsteps hs0 hgood
      go_wp2_with fail
      refine (CRE.out W2 HL2.out).mono ?_
      rintro e W3 ⟨RA, rc, SA, sc, TA, tc, rfl, hv, hb⟩
      have hv3 := hv.base HL2.out.below.size
      have hba := (Below.refl W3.heap.size W3).alloc (Nat.le_refl _) (.cells #[.int .i64 r.st, .int .i64 (r.blk : Int), .int .i64 (r.pos : Int), .int .i64 r.val, .slice RA r.regs.length rc, .slice SA r.slots.length sc, .slice TA r.trace.length tc, .int .i64 (r.steps : Int)] 29)
      have HR4 := Lib.hid (Row.new W3 29 #[.int .i64 r.st, .int .i64 (r.blk : Int), .int .i64 (r.pos : Int), .int .i64 r.val, .slice RA r.regs.length rc, .slice SA r.slots.length sc, .slice TA r.trace.length tc, .int .i64 (r.steps : Int)])
      have HV4 := Lib.hid (hv3.below hba)
      have HL4 := Lib.hid ((HL2.out.next hb).next hba)
      clear hb hv hv3 hba HL2 d0 d1 d2 d3 hz0 CRE
      go_upto_region 4 with fail
      generalize W3.alloc (.cells #[.int .i64 r.st, .int .i64 (r.blk : Int), .int .i64 (r.pos : Int), .int .i64 r.val, .slice RA r.regs.length rc, .slice SA r.slots.length sc, .slice TA r.trace.length tc, .int .i64 (r.steps : Int)] 29) = W4 at *
      generalize W3.heap.size = z9 at *
      have d0 := HL4.out.f.cell 0; have d1 := HL4.out.f.cell 1; have d2 := HL4.out.f.cell 2; have d3 := HL4.out.f.cell 3
      simp only [List.getElem?_toArray, List.getElem?_cons_zero, List.getElem?_cons_succ] at d0 d1 d2 d3
      have s0 := HR4.out.cell 0; have s1 := HR4.out.cell 1; have s2 := HR4.out.cell 2; have s3 := HR4.out.cell 3; have s4 := HR4.out.cell 4; have s5 := HR4.out.cell 5; have s6 := HR4.out.cell 6; have s7 := HR4.out.cell 7
      simp only [List.getElem?_toArray, List.getElem?_cons_zero, List.getElem?_cons_succ] at s0 s1 s2 s3 s4 s5 s6 s7
      have hgb := HGD.out.blk
      have hxy : mblkAt bs r.blk = bs[r.blk] := mblkAt_lt hgb
      have hcl := mcodeN_mem bs r.blk hgb
      have hbn : (r.blk : Int) < bs.length := by omega
      have HMV := Lib.hid fun (h0 : r.st = 0) (hp : r.pos < (mblkAt bs r.blk).code.length) h18 => stepX_move HF.out HGD.out h0 hp h18
      rw [hxy] at HMV
      obtain ⟨b, o, rfl, hb, hat⟩ := HL4.out.b.at_ hgb
      generalize bs[r.blk] = y at *
      obtain ⟨A1, c1, hc0, hl1, hl2, hin⟩ := hat.code
      have t0 := hat.t0; have t1 := hat.t1; have t2 := hat.t2; have t3 := hat.t3
      have hlz : w.heap.size < W4.heap.size := HL4.out.f.lt
      have hz9 : z9 < W4.heap.size := HR4.out.lt
      have hlb : b < W4.heap.size := by have := HL4.out.below.size; omega
      have hba := (Below.refl W4.heap.size W4).alloc (Nat.le_refl _) (.cells #[.slice A1 y.code.length c1, .int .i64 y.term.kind, .int .i64 y.term.a, .int .i64 y.term.to, .int .i64 y.term.el] 50)
      have HR6 := Lib.hid (HR4.out.alloc (.cells #[.slice A1 y.code.length c1, .int .i64 y.term.kind, .int .i64 y.term.a, .int .i64 y.term.to, .int .i64 y.term.el] 50))
      have HV6 := Lib.hid (HV4.out.below hba)
      have HL6 := Lib.hid (HL4.out.next hba)
      have HBK := Lib.hid (Row.new W4 50 #[.slice A1 y.code.length c1, .int .i64 y.term.kind, .int .i64 y.term.a, .int .i64 y.term.to, .int .i64 y.term.el])
      have HIN := Lib.hid (hin.keep (w' := W4.alloc (.cells #[.slice A1 y.code.length c1, .int .i64 y.term.kind, .int .i64 y.term.a, .int .i64 y.term.to, .int .i64 y.term.el] 50)) fun p hp => World.cell?_alloc_lt W4 _ p (by have := HL4.out.below.size; omega))
      clear hin hat hba hxy
      go_upto_region 5 with fail
      clear t0 t1 t2 t3 d0 d1 d2 d3 hc0 s0 s1 s2 s3 s4 s5 s6 s7 HR4 HV4 HL4
      generalize W4.alloc (.cells #[.slice A1 y.code.length c1, .int .i64 y.term.kind, .int .i64 y.term.a, .int .i64 y.term.to, .int .i64 y.term.el] 50) = W6 at *
      generalize W4.heap.size = z10 at *
      have s0 := HR6.out.cell 0; have s1 := HR6.out.cell 1; have s2 := HR6.out.cell 2; have s3 := HR6.out.cell 3; have s4 := HR6.out.cell 4; have s5 := HR6.out.cell 5; have s6 := HR6.out.cell 6; have s7 := HR6.out.cell 7
      simp only [List.getElem?_toArray, List.getElem?_cons_zero, List.getElem?_cons_succ] at s0 s1 s2 s3 s4 s5 s6 s7
      have k0 := HBK.out.cell 0
      simp only [List.getElem?_toArray, List.getElem?_cons_zero] at k0
      have hz10 : z10 < W6.heap.size := HBK.out.lt
      have hz9' : z9 < W6.heap.size := HR6.out.lt
      by_cases h0 : r.st = 0
      · have e0 : (r.st != 0) = false := by simp [h0]
        by_cases hlt : r.pos < y.code.length
        · have hlt2 : (r.pos : Int) < y.code.length := by omega
          have hlt3 : decide ((y.code.length : Int) ≤ (r.pos : Int)) = false := by simp; omega
          obtain ⟨b1, o1, rfl, hb1, hi⟩ := HIN.out.at_ hlt
          have i0 := hi.c0; have i1 := hi.c1; have i2 := hi.c2; have i3 := hi.c3; have i4 := hi.c4; have i5 := hi.c5; have i6 := hi.c6
          have HM2 := Lib.hid fun h18 => HMV.out h0 hlt h18
          have hlb1 : b1 < W6.heap.size := by omega
          clear hi HIN HMV
          generalize hxx : y.code[r.pos] = x at *
          by_cases h18 : x.op = 18
          · have e18 : (x.op != 18) = false := by simp [h18]
            have HST := Lib.hid (HM2.out h18)
            have hba := (Below.refl W6.heap.size W6).alloc (Nat.le_refl _) (.cells #[.int .i64 x.op, .int .i64 x.d, .int .i64 x.a, .int .i64 x.b, .int .i64 x.imm, .int .i64 x.dst, .int .i64 x.src] 52)
            have HR7 := Lib.hid (HR6.out.below hba HR6.out.lt)
            have HV7 := Lib.hid (HV6.out.below hba)
            have HL7 := Lib.hid (HL6.out.next hba)
            have HI7 := Lib.hid (Row.new W6 52 #[.int .i64 x.op, .int .i64 x.d, .int .i64 x.a, .int .i64 x.b, .int .i64 x.imm, .int .i64 x.dst, .int .i64 x.src])
            clear hba HM2 h18
            go_upto_region 8 with fail
            clear i0 i1 i2 i3 i4 i5 i6 k0 s0 s1 s2 s3 s4 s5 s6 s7 HR6 HV6 HL6 HBK e18 e0 hlt3
            generalize W6.alloc (.cells #[.int .i64 x.op, .int .i64 x.d, .int .i64 x.a, .int .i64 x.b, .int .i64 x.imm, .int .i64 x.dst, .int .i64 x.src] 52) = W7 at *
            generalize W6.heap.size = z11 at *
            have d0 := HL7.out.f.cell 0; have d1 := HL7.out.f.cell 1; have d2 := HL7.out.f.cell 2; have d3 := HL7.out.f.cell 3
            simp only [List.getElem?_toArray, List.getElem?_cons_zero, List.getElem?_cons_succ] at d0 d1 d2 d3
            have s0 := HR7.out.cell 0; have s1 := HR7.out.cell 1; have s2 := HR7.out.cell 2; have s3 := HR7.out.cell 3; have s4 := HR7.out.cell 4; have s5 := HR7.out.cell 5; have s6 := HR7.out.cell 6; have s7 := HR7.out.cell 7
            simp only [List.getElem?_toArray, List.getElem?_cons_zero, List.getElem?_cons_succ] at s0 s1 s2 s3 s4 s5 s6 s7
            have hz7 : z9 < W7.heap.size := HR7.out.lt
            have hlz7 : w.heap.size < W7.heap.size := HL7.out.f.lt
            have C8 := Lib.hid (CI.out RA SA TA rc sc tc W7 HL7.out HV7.out)
            generalize hss : stepX bs r = s at *
            clear hss CI h0
            go_wp2_with fail
            refine C8.out.mono ?_
            rintro e W8 ⟨RB, rd, SB, sd, TB, td, rfl, hv, hb⟩
            have hba := (Below.refl W8.heap.size W8).alloc (Nat.le_refl _) (.cells #[.int .i64 s.st, .int .i64 (s.blk : Int), .int .i64 (s.pos : Int), .int .i64 s.val, .slice RB s.regs.length rd, .slice SB s.slots.length sd, .slice TB s.trace.length td, .int .i64 (s.steps : Int)] 29)
            have hbb := hb.trans (hba.mono hb.size)
            have hG0 : GV w (l.length : Int) (n : Int) (m : Int) (some ⟨b, o, none⟩) bs c a1 l z9 z11 W8.heap.size r s x RA rc SA sc TA tc RB rd SB sd TB td (W8.alloc (.cells #[.int .i64 s.st, .int .i64 (s.blk : Int), .int .i64 (s.pos : Int), .int .i64 s.val, .slice RB s.regs.length rd, .slice SB s.slots.length sd, .slice TB s.trace.length td, .int .i64 (s.steps : Int)] 29)) :=
              ⟨HL7.out.next hbb, HR7.out.below hbb HR7.out.lt, HI7.out.below hbb HI7.out.lt, Row.new _ _ _, HV7.out.below hbb, (hv.base HL7.out.below.size).below hba⟩
            have HG0 := Lib.hid hG0
            clear hb hv hba hbb hG0 HL7 HR7 HI7 HV7 C8 d0 d1 d2 d3 s0 s1 s2 s3 s4 s5 s6 s7
            go_upto_region 9 with fail
            generalize W8.alloc (.cells #[.int .i64 s.st, .int .i64 (s.blk : Int), .int .i64 (s.pos : Int), .int .i64 s.val, .slice RB s.regs.length rd, .slice SB s.slots.length sd, .slice TB s.trace.length td, .int .i64 (s.steps : Int)] 29) = W9 at *
            generalize W8.heap.size = z12 at *
            obtain ⟨hld, hls, g1, g2, g3, g4, g5, g6⟩ := HST.out
            have hrl : r.regs.length = n := HGD.out.lenr
            have hsl : r.slots.length = m := HGD.out.lens
            have K1 := Lib.hid fun W (h : GV w (l.length : Int) (n : Int) (m : Int) (some ⟨b, o, none⟩) bs c a1 l z9 z11 z12 r s x RA rc SA sc TA tc RB rd SB sd TB td W) => (read_any s x.dst w.heap.size RB SB TB rd sd td W h.v12 (by rw [g1, g2]; exact hld) (by rw [g1]; omega) (by rw [g2]; omega)).mono fun e w' ⟨he, hb⟩ => (⟨by rw [he, g5], h.next hb⟩ : e = Ending.returned (.int .i64 (rdX r x.src)) ∧ GV w (l.length : Int) (n : Int) (m : Int) (some ⟨b, o, none⟩) bs c a1 l z9 z11 z12 r s x RA rc SA sc TA tc RB rd SB sd TB td w')
            have K2 := Lib.hid fun W (h : GV w (l.length : Int) (n : Int) (m : Int) (some ⟨b, o, none⟩) bs c a1 l z9 z11 z12 r s x RA rc SA sc TA tc RB rd SB sd TB td W) => (read_any r x.src w.heap.size RA SA TA rc sc tc W h.v9 (by rw [hrl, hsl]; exact hls) hrl9 hsl9).mono fun e w' ⟨he, hb⟩ => (⟨he, h.next hb⟩ : e = _ ∧ GV w (l.length : Int) (n : Int) (m : Int) (some ⟨b, o, none⟩) bs c a1 l z9 z11 z12 r s x RA rc SA sc TA tc RB rd SB sd TB td w')
            have K3 := Lib.hid fun W (h : GV w (l.length : Int) (n : Int) (m : Int) (some ⟨b, o, none⟩) bs c a1 l z9 z11 z12 r s x RA rc SA sc TA tc RB rd SB sd TB td W) => show Calls Try.prog 22 #[.slice TB s.trace.length td, .slice TA r.trace.length tc] W fun e w' => e = Ending.returned (.bool true) ∧ GV w (l.length : Int) (n : Int) (m : Int) (some ⟨b, o, none⟩) bs c a1 l z9 z11 z12 r s x RA rc SA sc TA tc RB rd SB sd TB td w' from by
              rw [show s.trace.length = r.trace.length from by rw [g3]]
              exact (vals_at (W := W) W.heap.size r.trace r.trace.length td tc rfl (by rw [← g3]; exact h.v12.sts) h.v9.sts h.v9.lens.2.2).mono fun e w' ⟨he, k, hb⟩ => ⟨he, hb ▸ h.drewN k⟩
            have K4 := Lib.hid fun (u : Int) (hl : LocOk n m a3) (hu : rdX s a3 = u) W (h : GV w (l.length : Int) (n : Int) (m : Int) (some ⟨b, o, none⟩) bs c a1 l z9 z11 z12 r s x RA rc SA sc TA tc RB rd SB sd TB td W) => (read_any s a3 w.heap.size RB SB TB rd sd td W h.v12 (by rw [g1, g2]; exact hl) (by rw [g1]; omega) (by rw [g2]; omega)).mono fun e w' ⟨he, hb⟩ => (⟨by rw [he, hu], h.next hb⟩ : e = Ending.returned (.int .i64 u) ∧ GV w (l.length : Int) (n : Int) (m : Int) (some ⟨b, o, none⟩) bs c a1 l z9 z11 z12 r s x RA rc SA sc TA tc RB rd SB sd TB td w')
            have K5 := Lib.hid fun (hl : LocOk n m a3) W (h : GV w (l.length : Int) (n : Int) (m : Int) (some ⟨b, o, none⟩) bs c a1 l z9 z11 z12 r s x RA rc SA sc TA tc RB rd SB sd TB td W) => (read_any r a3 w.heap.size RA SA TA rc sc tc W h.v9 (by rw [hrl, hsl]; exact hl) hrl9 hsl9).mono fun e w' ⟨he, hb⟩ => (⟨he, h.next hb⟩ : e = _ ∧ GV w (l.length : Int) (n : Int) (m : Int) (some ⟨b, o, none⟩) bs c a1 l z9 z11 z12 r s x RA rc SA sc TA tc RB rd SB sd TB td w')
            have KI := Lib.hid fun (bb : Bool) (hl : locS a3 n m = bb) W (h : GV w (l.length : Int) (n : Int) (m : Int) (some ⟨b, o, none⟩) bs c a1 l z9 z11 z12 r s x RA rc SA sc TA tc RB rd SB sd TB td W) => (rlocin_at a3 n m bb W hfit hl).mono fun e w' ⟨he, hb⟩ => (⟨he, hb ▸ h⟩ : e = _ ∧ GV w (l.length : Int) (n : Int) (m : Int) (some ⟨b, o, none⟩) bs c a1 l z9 z11 z12 r s x RA rc SA sc TA tc RB rd SB sd TB td w')
            have e1 : ((s.regs.length : Int) != (n : Int)) = false := by simp [g1]
            have e2 : ((s.slots.length : Int) != (m : Int)) = false := by simp [g2]
            have ew : IntKind.i64.wrap ((r.steps : Int) + 1) = (r.steps : Int) + 1 := by rw [IntKind.wrap_i64]; omega
            have e3 : ((s.steps : Int) != IntKind.i64.wrap ((r.steps : Int) + 1)) = false := by rw [ew]; simp [g4]
            clear ew
            have HG6 := Lib.hid g6
            clear g1 g2 g3 g4 g5 g6 hld hls hrl hsl HGD HST
            generalize rdX r x.src = v at *
            have e4 : (v != v) = false := by simp
            have hG := HG0.out
            clear HG0
            obtain ⟨d1, d2, i5, i6, s0, s1, s2, s3, s4, s5, s6, s7, t0, t1, t2, t3, t4, t5, t6, t7⟩ := hG.cells
            go_region_held3 (fun w' => w'.cell? ⟨w.heap.size, 1, none⟩ = some (.int .i64 (n : Int)) ∧ w'.cell? ⟨w.heap.size, 2, none⟩ = some (.int .i64 (m : Int)) ∧ w'.cell? ⟨z11, 5, none⟩ = some (.int .i64 x.dst) ∧ w'.cell? ⟨z11, 6, none⟩ = some (.int .i64 x.src) ∧ w'.cell? ⟨z9, 0, none⟩ = some (.int .i64 r.st) ∧ w'.cell? ⟨z9, 1, none⟩ = some (.int .i64 (r.blk : Int)) ∧ w'.cell? ⟨z9, 2, none⟩ = some (.int .i64 (r.pos : Int)) ∧ w'.cell? ⟨z9, 3, none⟩ = some (.int .i64 r.val) ∧ w'.cell? ⟨z9, 4, none⟩ = some (.slice RA r.regs.length rc) ∧ w'.cell? ⟨z9, 5, none⟩ = some (.slice SA r.slots.length sc) ∧ w'.cell? ⟨z9, 6, none⟩ = some (.slice TA r.trace.length tc) ∧ w'.cell? ⟨z9, 7, none⟩ = some (.int .i64 (r.steps : Int)) ∧ w'.cell? ⟨z12, 0, none⟩ = some (.int .i64 s.st) ∧ w'.cell? ⟨z12, 1, none⟩ = some (.int .i64 (s.blk : Int)) ∧ w'.cell? ⟨z12, 2, none⟩ = some (.int .i64 (s.pos : Int)) ∧ w'.cell? ⟨z12, 3, none⟩ = some (.int .i64 s.val) ∧ w'.cell? ⟨z12, 4, none⟩ = some (.slice RB s.regs.length rd) ∧ w'.cell? ⟨z12, 5, none⟩ = some (.slice SB s.slots.length sd) ∧ w'.cell? ⟨z12, 6, none⟩ = some (.slice TB s.trace.length td) ∧ w'.cell? ⟨z12, 7, none⟩ = some (.int .i64 (s.steps : Int))) (first | exact hG.cells | exact hG.drew.cells | exact (hG.drewN _).cells) (first
              | (go_at_call 16; go_must ((first | (with_reducible refine (K1.out _ (by first | exact hG | exact hG.drew | exact hG.drewN _)).mono ?_) | (with_reducible refine (K2.out _ (by first | exact hG | exact hG.drew | exact hG.drewN _)).mono ?_)); rintro e W10 ⟨rfl, hG⟩))
              | (go_at_call 22; go_must ((with_reducible refine (K3.out _ (by first | exact hG | exact hG.drew | exact hG.drewN _)).mono ?_); rintro e W10 ⟨rfl, hG⟩))
              )
            have HG10 := Lib.hid hG
            clear hG d1 d2 i5 i6 s0 s1 s2 s3 s4 s5 s6 s7 t0 t1 t2 t3 t4 t5 t6 t7 K1 K2 K3
            go_upto_region 12 with fail
            generalize hu : rdX r a3 = u
            cases hloc : locS a3 n m
            · have KF := KI.out false hloc
              clear K4 K5 KI
              obtain ⟨d1, d2, i5, i6, s0, s1, s2, s3, s4, s5, s6, s7, t0, t1, t2, t3, t4, t5, t6, t7⟩ := HG10.out.cells
              go_quiet (exact quietS (rlocin_at a3 n m false _ hfit hloc))
              go_wp2
              go_ret
              exact ⟨rfl, blw_drewN HG10.out.lw.below _⟩
            · have KT := KI.out true hloc
              by_cases hxd : a3 = x.dst
              · have hd : (a3 == x.dst) = true := by simp [hxd]
                clear K4 K5 KI hxd
                obtain ⟨d1, d2, i5, i6, s0, s1, s2, s3, s4, s5, s6, s7, t0, t1, t2, t3, t4, t5, t6, t7⟩ := HG10.out.cells
                go_quiet (exact quietS (rlocin_at a3 n m true _ hfit hloc))
                go_wp2
                go_ret
                exact ⟨rfl, blw_drewN HG10.out.lw.below _⟩
              · have hd : (a3 == x.dst) = false := by simp [hxd]
                have K4' := Lib.hid (K4.out u (locS_ok hloc) (by rw [← hu]; exact HG6.out a3 (locS_ok hloc) hxd))
                have K5' := Lib.hid (K5.out (locS_ok hloc))
                have KI' := Lib.hid KT
                have e5 : (u == u) = true := by simp
                clear K4 K5 KI KT hxd
                have hG := HG10.out
                clear HG10
                obtain ⟨d1, d2, i5, i6, s0, s1, s2, s3, s4, s5, s6, s7, t0, t1, t2, t3, t4, t5, t6, t7⟩ := hG.cells
                go_region_held3 (fun w' => w'.cell? ⟨w.heap.size, 1, none⟩ = some (.int .i64 (n : Int)) ∧ w'.cell? ⟨w.heap.size, 2, none⟩ = some (.int .i64 (m : Int)) ∧ w'.cell? ⟨z11, 5, none⟩ = some (.int .i64 x.dst) ∧ w'.cell? ⟨z11, 6, none⟩ = some (.int .i64 x.src) ∧ w'.cell? ⟨z9, 0, none⟩ = some (.int .i64 r.st) ∧ w'.cell? ⟨z9, 1, none⟩ = some (.int .i64 (r.blk : Int)) ∧ w'.cell? ⟨z9, 2, none⟩ = some (.int .i64 (r.pos : Int)) ∧ w'.cell? ⟨z9, 3, none⟩ = some (.int .i64 r.val) ∧ w'.cell? ⟨z9, 4, none⟩ = some (.slice RA r.regs.length rc) ∧ w'.cell? ⟨z9, 5, none⟩ = some (.slice SA r.slots.length sc) ∧ w'.cell? ⟨z9, 6, none⟩ = some (.slice TA r.trace.length tc) ∧ w'.cell? ⟨z9, 7, none⟩ = some (.int .i64 (r.steps : Int)) ∧ w'.cell? ⟨z12, 0, none⟩ = some (.int .i64 s.st) ∧ w'.cell? ⟨z12, 1, none⟩ = some (.int .i64 (s.blk : Int)) ∧ w'.cell? ⟨z12, 2, none⟩ = some (.int .i64 (s.pos : Int)) ∧ w'.cell? ⟨z12, 3, none⟩ = some (.int .i64 s.val) ∧ w'.cell? ⟨z12, 4, none⟩ = some (.slice RB s.regs.length rd) ∧ w'.cell? ⟨z12, 5, none⟩ = some (.slice SB s.slots.length sd) ∧ w'.cell? ⟨z12, 6, none⟩ = some (.slice TB s.trace.length td) ∧ w'.cell? ⟨z12, 7, none⟩ = some (.int .i64 (s.steps : Int))) (first | exact hG.cells | exact hG.drew.cells | exact (hG.drewN _).cells) (first
                  | (go_at_call 15; go_must ((with_reducible refine (KI'.out _ (by first | exact hG | exact hG.drew | exact hG.drewN _)).mono ?_); rintro e W11 ⟨rfl, hG⟩))
                  | (go_at_call 16; go_must ((first | (with_reducible refine (K4'.out _ (by first | exact hG | exact hG.drew | exact hG.drewN _)).mono ?_) | (with_reducible refine (K5'.out _ (by first | exact hG | exact hG.drew | exact hG.drewN _)).mono ?_)); rintro e W11 ⟨rfl, hG⟩))
                  )
                have HB11 := Lib.hid hG.lw.below
                clear hG
                go_wp2
                go_ret
                exact ⟨rfl, HB11.out⟩
          · have e18 : (x.op != 18) = true := by simp [h18]
            clear h18 HM2
            go_wp2
            go_ret
            exact ⟨rfl, HL6.out.below⟩
        · have hlt3 : decide ((y.code.length : Int) ≤ (r.pos : Int)) = true := by simp; omega
          have hge : (y.code.length : Int) ≤ (r.pos : Int) := by omega
          have hge2 : ¬ (r.pos : Int) < (y.code.length : Int) := by omega
          go_wp2
          go_ret
          exact ⟨rfl, HL6.out.below⟩
      · have e0 : (r.st != 0) = true := by simp [h0]
        clear h0
        go_wp2
        go_ret
        exact ⟨rfl, HL6.out.below⟩
    · have hle : ((len1 : Int) != args) = true := by simp [hlen]
      clear hlen
      go_wp2_with fail
      refine (xawake_any _).mono ?_
      rintro e W3 ⟨rfl, hb⟩
      have HB3 := Lib.hid (HL2.out.next hb).below
      clear hb HL2 d0 d1 d2 d3
      go_wp2
      go_ret
      exact ⟨rfl, HB3.out⟩

end Go.Proofs.Ytcimjghejclknaa
