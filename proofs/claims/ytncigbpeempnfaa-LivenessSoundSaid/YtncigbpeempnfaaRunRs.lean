/-
  The reference's Step (written by wip/lab/genrs.py).
-/
import Derived.Test.YtncigbpeempnfaaRunOu
import Derived.Test.YtncigbpeempnfaaAluRef
namespace Go.Proofs.Ytncigbpeempnfaa
open Go.RowKit
set_option linter.unusedVariables false
set_option linter.unusedSimpArgs false

/-- What the reference's Step carries: the boxes, the result, the run that is made. -/
structure RsW (w : World) (args regs0 : Int) (BA : Option Addr) (bl bc : Nat) (RA : Option Addr) (rc : Nat) (SA : Option Addr) (sc : Nat) (TA : Option Addr) (tc : Nat) (r : Rn) (z : Nat) (OA : Option Addr) (oc : Nat) (OS : Option Addr) (os : Nat) (OT : Option Addr) (ot : Nat) (r' : Rn) (W : World) : Prop where
  below : Below w.heap.size w W
  bf : Row W w.heap.size 24 #[.int .i64 args, .int .i64 regs0, .slice BA bl bc]
  bx : Row W (w.heap.size + 1) 46 #[.int .i64 r.st, .int .i64 (r.blk : Int), .int .i64 (r.pos : Int), .int .i64 r.val, .slice RA r.regs.length rc, .slice SA 0 sc, .slice TA r.trace.length tc, .int .i64 (r.steps : Int)]
  res : Row W (w.heap.size + 1 + 1) 46 #[.int .i64 0, .int .i64 0, .int .i64 0, .int .i64 0, .slice none 0 0, .slice none 0 0, .slice none 0 0, .int .i64 0]
  ou : Ou W (w.heap.size + 1 + 1 + 1) z OA oc OS os OT ot r'

section
variable {w : World} {args regs0 : Int} {BA : Option Addr} {bl bc : Nat} {RA : Option Addr} {rc : Nat} {SA : Option Addr} {sc : Nat} {TA : Option Addr} {tc : Nat} {r : Rn} {z : Nat} {OA OA' : Option Addr} {oc oc' : Nat} {OS : Option Addr} {os : Nat} {OT OT' : Option Addr} {ot ot' : Nat} {r' r'' : Rn} {W W' : World}

theorem RsW.next (h : RsW w args regs0 BA bl bc RA rc SA sc TA tc r z OA oc OS os OT ot r' W) (hb : Below W.heap.size W W') : RsW w args regs0 BA bl bc RA rc SA sc TA tc r z OA oc OS os OT ot r' W' :=
  ⟨h.below.trans (hb.mono h.below.size), h.bf.below hb h.bf.lt, h.bx.below hb h.bx.lt, h.res.below hb h.res.lt, h.ou.next hb⟩

theorem RsW.upd (h : RsW w args regs0 BA bl bc RA rc SA sc TA tc r z OA oc OS os OT ot r' W) (hb : Below (w.heap.size + 1 + 1 + 1) W W') (ho : Ou W' (w.heap.size + 1 + 1 + 1) z OA' oc' OS os OT' ot' r'') : RsW w args regs0 BA bl bc RA rc SA sc TA tc r z OA' oc' OS os OT' ot' r'' W' :=
  ⟨h.below.trans (hb.mono (by omega)), h.bf.below hb (by omega), h.bx.below hb (by omega), h.res.below hb (by omega), ho⟩

theorem RsW.start (args regs0 : Int) (BA : Option Addr) (bl bc : Nat) {W0 : World} (hb : Below w.heap.size w W0) (h0 : Row W0 w.heap.size 24 #[.int .i64 args, .int .i64 regs0, .slice BA bl bc]) (h1 : Row W0 (w.heap.size + 1) 46 #[.int .i64 r.st, .int .i64 (r.blk : Int), .int .i64 (r.pos : Int), .int .i64 r.val, .slice RA r.regs.length rc, .slice SA 0 sc, .slice TA r.trace.length tc, .int .i64 (r.steps : Int)])
    (h2 : Row W0 (w.heap.size + 1 + 1) 46 #[.int .i64 0, .int .i64 0, .int .i64 0, .int .i64 0, .slice none 0 0, .slice none 0 0, .slice none 0 0, .int .i64 0]) (hv : RunV W W0.heap.size OA oc OT ot r) (hb1 : Below W0.heap.size W0 W) :
    RsW w args regs0 BA bl bc RA rc SA sc TA tc r W.heap.size OA oc OS os OT ot r (W.alloc (.cells #[.int .i64 r.st, .int .i64 (r.blk : Int), .int .i64 (r.pos : Int), .int .i64 r.val, .slice OA r.regs.length oc, .slice OS 0 os, .slice OT r.trace.length ot, .int .i64 (r.steps : Int)] 46)) where
  below := (hb.trans (hb1.mono hb.size)).alloc (by have := hb.size; have := hb1.size; omega) _
  bf := (h0.below hb1 h0.lt).alloc _
  bx := (h1.below hb1 h1.lt).alloc _
  res := (h2.below hb1 h2.lt).alloc _
  ou := ⟨Row.new _ _ _, (hv.base h2.lt).below ((Below.refl _ _).alloc (Nat.le_refl _) _), by have := h2.lt; have := hb1.size; omega⟩

/-- The same with the instruction's box. -/
structure RX (w : World) (args regs0 : Int) (BA : Option Addr) (bl bc : Nat) (RA : Option Addr) (rc : Nat) (SA : Option Addr) (sc : Nat) (TA : Option Addr) (tc : Nat) (r : Rn) (z : Nat) (OA : Option Addr) (oc : Nat) (OS : Option Addr) (os : Nat) (OT : Option Addr) (ot : Nat) (r' : Rn) (xb : Nat) (x : In) (W : World) : Prop where
  rs : RsW w args regs0 BA bl bc RA rc SA sc TA tc r z OA oc OS os OT ot r' W
  ix : Row W xb 56 #[.int .i64 x.op, .int .i64 x.d, .int .i64 x.a, .int .i64 x.b, .int .i64 x.imm]

theorem RX.next {xb : Nat} {x : In} (h : RX w args regs0 BA bl bc RA rc SA sc TA tc r z OA oc OS os OT ot r' xb x W) (hb : Below W.heap.size W W') : RX w args regs0 BA bl bc RA rc SA sc TA tc r z OA oc OS os OT ot r' xb x W' := ⟨h.rs.next hb, h.ix.below hb h.ix.lt⟩

theorem RX.drewN {xb : Nat} {x : In} (h : RX w args regs0 BA bl bc RA rc SA sc TA tc r z OA oc OS os OT ot r' xb x W) (n : Nat) : RX w args regs0 BA bl bc RA rc SA sc TA tc r z OA oc OS os OT ot r' xb x (W.drewN n) := h.next (blw_drewN (Below.refl _ _) n)

theorem RX.drew {xb : Nat} {x : In} (h : RX w args regs0 BA bl bc RA rc SA sc TA tc r z OA oc OS os OT ot r' xb x W) : RX w args regs0 BA bl bc RA rc SA sc TA tc r z OA oc OS os OT ot r' xb x W.drew := h.drewN 1

end

set_option maxRecDepth 100000 in
set_option maxHeartbeats 16000000 in
theorem rstepr_any (bs : List Blk) (r : Rn) (B lo : Nat) (args regs0 : Int) (RA SA TA BA : Option Addr) (rc sc tc bc : Nat) (w : World) (hV : RunV w lo RA rc TA tc r) (hs : BlksAt w B BA bs) (hB : B ≤ w.heap.size) (hF : OkF r.regs.length bs) (hG : Good r.regs.length bs r) (hst : r.steps ≤ 1000000) (hrl : r.regs.length ≤ 1000000) (hn : codeN bs ≤ 1000000) (hm : bs.length ≤ 1000) :
    Calls Try.prog 25 #[.agg #[.int .i64 args, .int .i64 regs0, .slice BA bs.length bc], .agg #[.int .i64 r.st, .int .i64 (r.blk : Int), .int .i64 (r.pos : Int), .int .i64 r.val, .slice RA r.regs.length rc, .slice SA 0 sc, .slice TA r.trace.length tc, .int .i64 (r.steps : Int)]] w (RunP w (stepR bs r)) := by
  have htr : r.trace.length ≤ 1000000 := Nat.le_trans hG.tr hst
  have hb0 := (((Below.refl w.heap.size w).alloc (Nat.le_refl _) (.cells #[.int .i64 args, .int .i64 regs0, .slice BA bs.length bc] 24)).alloc (by simp) (.cells #[.int .i64 r.st, .int .i64 (r.blk : Int), .int .i64 (r.pos : Int), .int .i64 r.val, .slice RA r.regs.length rc, .slice SA 0 sc, .slice TA r.trace.length tc, .int .i64 (r.steps : Int)] 46)).alloc (by simp; omega) (.cells #[.int .i64 0, .int .i64 0, .int .i64 0, .int .i64 0, .slice none 0 0, .slice none 0 0, .slice none 0 0, .int .i64 0] 46)
  have hbf := ((Row.new w 24 #[.int .i64 args, .int .i64 regs0, .slice BA bs.length bc]).alloc (.cells #[.int .i64 r.st, .int .i64 (r.blk : Int), .int .i64 (r.pos : Int), .int .i64 r.val, .slice RA r.regs.length rc, .slice SA 0 sc, .slice TA r.trace.length tc, .int .i64 (r.steps : Int)] 46)).alloc (.cells #[.int .i64 0, .int .i64 0, .int .i64 0, .int .i64 0, .slice none 0 0, .slice none 0 0, .slice none 0 0, .int .i64 0] 46)
  have hbx := (Row.new' (W := w.alloc (.cells #[.int .i64 args, .int .i64 regs0, .slice BA bs.length bc] 24)) (p := w.heap.size + 1) (by simp) 46 #[.int .i64 r.st, .int .i64 (r.blk : Int), .int .i64 (r.pos : Int), .int .i64 r.val, .slice RA r.regs.length rc, .slice SA 0 sc, .slice TA r.trace.length tc, .int .i64 (r.steps : Int)]).alloc (.cells #[.int .i64 0, .int .i64 0, .int .i64 0, .int .i64 0, .slice none 0 0, .slice none 0 0, .slice none 0 0, .int .i64 0] 46)
  have hrs := Row.new' (W := (w.alloc (.cells #[.int .i64 args, .int .i64 regs0, .slice BA bs.length bc] 24)).alloc (.cells #[.int .i64 r.st, .int .i64 (r.blk : Int), .int .i64 (r.pos : Int), .int .i64 r.val, .slice RA r.regs.length rc, .slice SA 0 sc, .slice TA r.trace.length tc, .int .i64 (r.steps : Int)] 46)) (p := w.heap.size + 1 + 1) (by simp) 46 #[.int .i64 0, .int .i64 0, .int .i64 0, .int .i64 0, .slice none 0 0, .slice none 0 0, .slice none 0 0, .int .i64 0]
  have C1 := Lib.hid (rcopyr_any r w.heap.size RA SA TA rc sc tc _ (hV.srs.below hb0) (hV.str.below hb0) hb0.size hrl htr)
  have HST := Lib.hid fun (W0 W1 : World) OA oc OS os OT ot h0 h1 h2 h3 h4 h5 => RsW.start (w := w) (W := W1) (W0 := W0) (RA := RA) (rc := rc) (SA := SA) (sc := sc) (TA := TA) (tc := tc) (r := r) (OA := OA) (oc := oc) (OS := OS) (os := os) (OT := OT) (ot := ot) args regs0 BA bs.length bc h0 h1 h2 h3 h4 h5
  have HB0 := Lib.hid hb0
  have HBF := Lib.hid hbf
  have HBX := Lib.hid hbx
  have HRS0 := Lib.hid hrs
  have HV := Lib.hid hV
  have HS := Lib.hid (hs.more hB)
  have HF := Lib.hid hF
  have HG := Lib.hid hG
  have hR2 : ∃ r2, r2 = stepR bs r := ⟨_, rfl⟩
  obtain ⟨r2, hr2⟩ := hR2
  have HE := Lib.hid hr2
  rw [← hr2]
  clear hb0 hbf hbx hrs hV hs hF hG hr2
  obtain ⟨st, blk, pos, val, regs, tr, steps⟩ := r
  obtain ⟨st2, blk2, pos2, val2, regs2, tr2, steps2⟩ := r2
  dsimp only at *
  generalize hL : bs.length = nb at *
  have HL := Lib.hid hL
  clear hL
  go_enter Try.func25, Try.ntmps25
  go_wp2_with fail
  refine C1.out.mono ?_
  generalize (((w.alloc (.cells #[.int .i64 args, .int .i64 regs0, .slice BA nb bc] 24)).alloc (.cells #[.int .i64 st, .int .i64 (blk : Int), .int .i64 (pos : Int), .int .i64 val, .slice RA regs.length rc, .slice SA 0 sc, .slice TA tr.length tc, .int .i64 (steps : Int)] 46)).alloc (.cells #[.int .i64 0, .int .i64 0, .int .i64 0, .int .i64 0, .slice none 0 0, .slice none 0 0, .slice none 0 0, .int .i64 0] 46)) = W0 at *
  rintro e W1 ⟨OA, oc, OS, os, OT, ot, rfl, hv, hb⟩
  have HW := Lib.hid (HST.out W0 W1 OA oc OS os OT ot HB0.out HBF.out HBX.out HRS0.out hv hb)
  clear HST hv hb HB0 HBF HBX HRS0 C1
  have hz1 : w.heap.size + 1 + 1 + 1 ≤ W1.heap.size := HW.out.ou.lt
  have c0 := HW.out.bx.cell 0
  simp only [List.getElem?_toArray, List.getElem?_cons_zero] at c0
  go_upto_region 2 with fail
  have hz2 : W1.heap.size < (W1.alloc (.cells #[.int .i64 st, .int .i64 (blk : Int), .int .i64 (pos : Int), .int .i64 val, .slice OA regs.length oc, .slice OS 0 os, .slice OT tr.length ot, .int .i64 (steps : Int)] 46)).heap.size := by simp
  generalize W1.alloc (.cells #[.int .i64 st, .int .i64 (blk : Int), .int .i64 (pos : Int), .int .i64 val, .slice OA regs.length oc, .slice OS 0 os, .slice OT tr.length ot, .int .i64 (steps : Int)] 46) = W2 at *
  generalize W1.heap.size = z at *
  by_cases h0 : st = 0
  · subst h0
    have hgb := HG.out.blk
    have hpl := HG.out.pos
    dsimp only at hgb hpl
    have hat0 := ((HS.out.below HW.out.below).at_ hgb)
    have hxy : blkAt bs blk = bs[blk] := blkAt_lt hgb
    have hins := HF.out.ins _ (List.getElem_mem hgb)
    have htm := HF.out.tm _ (List.getElem_mem hgb)
    have hcl := codeN_mem bs blk hgb
    rw [HL.out] at htm
    rw [hxy] at hpl
    have HEE : Hid ((⟨st2, blk2, pos2, val2, regs2, tr2, steps2⟩ : Rn) = if h : pos < bs[blk].code.length then perf bs[blk].code[pos] ⟨0, blk, pos, val, regs, tr, steps⟩ else leav bs[blk].term ⟨0, blk, pos, val, regs, tr, steps⟩) := by
      rw [Hid, HE.out, stepR, if_pos rfl]
      simp only [hxy]
    clear HE hxy
    obtain ⟨b, o, rfl, hb, hat⟩ := hat0
    have hbn : (blk : Int) < nb := by have := HL.out; omega
    generalize bs[blk] = y at *
    obtain ⟨A1, c1, hc0, hl1, hl2, hin⟩ := hat.code
    have t0 := hat.t0; have t1 := hat.t1; have t2 := hat.t2; have t3 := hat.t3
    have d2 := HW.out.bf.cell 2; have c1' := HW.out.bx.cell 1; have c2' := HW.out.bx.cell 2
    simp only [List.getElem?_toArray, List.getElem?_cons_zero, List.getElem?_cons_succ] at d2 c1' c2'
    have hlz : w.heap.size < W2.heap.size := HW.out.bf.lt
    have hlz1 : w.heap.size + 1 < W2.heap.size := HW.out.bx.lt
    have hlb : b < W2.heap.size := by omega
    have HW3 := Lib.hid (HW.out.next ((Below.refl W2.heap.size W2).alloc (Nat.le_refl _) (.cells #[.slice A1 y.code.length c1, .int .i64 y.term.kind, .int .i64 y.term.a, .int .i64 y.term.to, .int .i64 y.term.el] 34)))
    have HBK := Lib.hid (Row.new W2 34 #[.slice A1 y.code.length c1, .int .i64 y.term.kind, .int .i64 y.term.a, .int .i64 y.term.to, .int .i64 y.term.el])
    have HIN := Lib.hid (hin.keep (w' := W2.alloc (.cells #[.slice A1 y.code.length c1, .int .i64 y.term.kind, .int .i64 y.term.a, .int .i64 y.term.to, .int .i64 y.term.el] 34)) fun p hp => World.cell?_alloc_lt W2 _ p (by omega))
    clear hin hat
    go_upto_region 5 with fail
    clear t0 t1 t2 t3 d2 c1' c2' hc0 HW c0
    generalize W2.alloc (.cells #[.slice A1 y.code.length c1, .int .i64 y.term.kind, .int .i64 y.term.a, .int .i64 y.term.to, .int .i64 y.term.el] 34) = W3 at *
    generalize W2.heap.size = yb at *
    have p2 := HW3.out.bx.cell 2; have k0 := HBK.out.cell 0
    simp only [List.getElem?_toArray, List.getElem?_cons_zero, List.getElem?_cons_succ] at p2 k0
    have hyb : yb < W3.heap.size := HBK.out.lt
    have hz3 : z < W3.heap.size := HW3.out.ou.row.lt
    have hh3 : w.heap.size + 1 < W3.heap.size := HW3.out.bx.lt
    by_cases hlt : pos < y.code.length
    · have e5 : ((pos : Int) == (y.code.length : Int)) = false := by simp; omega
      have HE2 : Hid ((⟨st2, blk2, pos2, val2, regs2, tr2, steps2⟩ : Rn) = perf y.code[pos] ⟨0, blk, pos, val, regs, tr, steps⟩) := by rw [Hid, HEE.out, dif_pos hlt]
      have hio := hins _ (List.getElem_mem hlt)
      obtain ⟨b1, o1, rfl, hb1, hi⟩ := HIN.out.at_ hlt
      have i0 := hi.c0; have i1 := hi.c1; have i2 := hi.c2; have i3 := hi.c3; have i4 := hi.c4
      have hlt2 : (pos : Int) < y.code.length := by omega
      have hlb1 : b1 < W3.heap.size := by omega
      clear hi HIN HEE hins htm
      generalize y.code[pos] = x at *
      have HW4 := Lib.hid (HW3.out.next ((Below.refl W3.heap.size W3).alloc (Nat.le_refl _) (.cells #[.int .i64 x.op, .int .i64 x.d, .int .i64 x.a, .int .i64 x.b, .int .i64 x.imm] 56)))
      have HIR := Lib.hid (Row.new W3 56 #[.int .i64 x.op, .int .i64 x.d, .int .i64 x.a, .int .i64 x.b, .int .i64 x.imm])
      go_upto_region 17 with fail
      clear i0 i1 i2 i3 i4 p2 k0 e5 HW3 HBK
      generalize W3.alloc (.cells #[.int .i64 x.op, .int .i64 x.d, .int .i64 x.a, .int .i64 x.b, .int .i64 x.imm] 56) = W4 at *
      generalize W3.heap.size = xb at *
      obtain ⟨himm, ha0, ha1, hop⟩ := hio
      obtain ⟨op, d, ia, ib, imm⟩ := x
      dsimp only at *
      obtain ⟨a, rfl⟩ := Int.eq_ofNat_of_zero_le ha0
      have han : a < regs.length := by omega
      obtain ⟨g, rfl, hga⟩ := regs_at HV.out.regs han
      have hgl := (ownS_lt HV.out.regs g rfl).2
      have hga4 := (HW4.out.below.cell (p := ⟨g, a, none⟩) hgl).trans hga
      have HRX := Lib.hid HV.out.regs
      have hxb : xb < W4.heap.size := HIR.out.lt
      have hz4 : z < W4.heap.size := HW4.out.ou.row.lt
      rcases hop with h17 | ⟨h17, hd0, hd1, hb0, hb1'⟩
      · subst h17
        have HE3 : Hid ((⟨st2, blk2, pos2, val2, regs2, tr2, steps2⟩ : Rn) = ⟨0, blk, pos + 1, val, regs, tr ++ [rg regs (a : Int)], steps + 1⟩) := by rw [Hid, HE2.out, perf, if_pos rfl]
        clear HE2
        obtain ⟨i0, hi, hz0, hz1', hz2'⟩ := info_parts infoI64
        have s4 := HW4.out.bx.cell 4; have s0 := HIR.out.cell 0; have s2 := HIR.out.cell 2; have f6 := HW4.out.ou.row.cell 6
        simp only [List.getElem?_toArray, List.getElem?_cons_zero, List.getElem?_cons_succ] at s4 s0 s2 f6
        have HX1 : Hid (w.heap.size + 1 < W4.heap.size) := HW4.out.bx.lt
        have hgz : ¬ g = z := by omega
        have hxz : ¬ xb = z := fun e => by
          have h1 := HIR.out
          have h2 := HW4.out.ou.row
          unfold Row at h1 h2
          rw [e, h2] at h1
          simp at h1
        have hhz : ¬ w.heap.size + 1 = z := by omega
        have hlo1 : w.heap.size + 1 + 1 + 1 ≤ (W4.alloc (.cells #[.int .i64 (rg regs (a : Int))] 2)).heap.size := by simp; omega
        have HSX := Lib.hid (sees_new W4 #[.int .i64 (rg regs (a : Int))] 2)
        have HOA := Lib.hid (((Mods.refl No W4).alloc (.cells #[.int .i64 (rg regs (a : Int))] 2)).ownS HW4.out.ou.v.trace fun _ _ h => h)
        have hKg : ∀ W1, (W4.alloc (.cells #[.int .i64 (rg regs (a : Int))] 2)).grownBy W1 (Value.slice OT tr.length ot).ownBlock → ∀ p : Addr, p.block < W4.heap.size → (∀ k, (Value.slice OT tr.length ot).ownBlock = some k → ¬ p.block = k) → W1.heap[p.block]? = W4.heap[p.block]? := fun W1 hg p hp hn =>
          (hg.block p.block (by simp; omega) fun e => hn _ e.symm rfl).trans (Below.heap_alloc W4 _ p.block hp)
        have HKg : Hid (∀ W1, (W4.alloc (.cells #[.int .i64 (rg regs (a : Int))] 2)).grownBy W1 (Value.slice OT tr.length ot).ownBlock → W1.cell? ⟨w.heap.size + 1, 4, none⟩ = some (.slice (some ⟨g, 0, none⟩) regs.length rc) ∧ W1.cell? ⟨xb, 2, none⟩ = some (.int .i64 (a : Int)) ∧ W1.cell? ⟨g, a, none⟩ = some (.int .i64 (rg regs (a : Int)))) := fun W1 hg =>
          ⟨(World.cell?_of_block (hKg W1 hg ⟨w.heap.size + 1, 4, none⟩ HX1.out fun k hk e => by have := (ownS_lt HW4.out.ou.v.trace k hk).1; have h9 : w.heap.size + 1 = k := e; omega)).trans s4, (World.cell?_of_block (hKg W1 hg ⟨xb, 2, none⟩ hxb fun k hk e => own_row_ne HW4.out.ou.v.trace HIR.out (by decide) k hk e.symm)).trans s2, (World.cell?_of_block (hKg W1 hg ⟨g, a, none⟩ (by show g < W4.heap.size; omega) fun k hk e => by have := (ownS_lt HW4.out.ou.v.trace k hk).1; have h9 : g = k := e; omega)).trans hga4⟩
        have HAP0 := fun (W1 : World) (A1 : Option Addr) (c1 : Nat) hg ho ha => HW4.out.ou.app (rg regs (a : Int)) (.cells #[.int .i64 (rg regs (a : Int))] 2) (W := W1) (A1 := A1) (c1 := c1) hg ho ha
        dsimp only at HAP0
        have HAP := Lib.hid HAP0
        clear HAP0
        have HK1 : Hid ((W4.alloc (.cells #[.int .i64 (rg regs (a : Int))] 2)).cell? ⟨w.heap.size + 1, 4, none⟩ = some (.slice (some ⟨g, 0, none⟩) regs.length rc) ∧ (W4.alloc (.cells #[.int .i64 (rg regs (a : Int))] 2)).cell? ⟨xb, 2, none⟩ = some (.int .i64 (a : Int)) ∧ (W4.alloc (.cells #[.int .i64 (rg regs (a : Int))] 2)).cell? ⟨g, a, none⟩ = some (.int .i64 (rg regs (a : Int)))) :=
          ⟨(World.cell?_alloc_lt W4 _ ⟨w.heap.size + 1, 4, none⟩ HX1.out).trans s4, (World.cell?_alloc_lt W4 _ ⟨xb, 2, none⟩ hxb).trans s2, (World.cell?_alloc_lt W4 _ ⟨g, a, none⟩ (by show g < W4.heap.size; omega)).trans hga4⟩
        have HK0 := Lib.hid (And.intro s4 (And.intro s2 hga4))
        have HKb := Lib.hid hKg
        clear hKg
        generalize hX : rg regs (a : Int) = x at *
        have HXX := Lib.hid hX
        clear hX
        generalize hN : regs.length = n at *
        generalize hM : tr.length = m at *
        have HN := Lib.hid hN
        have HM := Lib.hid hM
        clear hN hM
        go_upto_region 18 with fail
        refine wp_region_held_drew (S := (fun w' => w'.cell? ⟨w.heap.size + 1, 4, none⟩ = some (.slice (some ⟨g, 0, none⟩) n rc) ∧ w'.cell? ⟨xb, 2, none⟩ = some (.int .i64 a) ∧ w'.cell? ⟨g, a, none⟩ = some (.int .i64 x))) (by kernel_rfl) HK0.out (fun hHeld => ?_)
        refine take_at 0 79 (.pointer (some ⟨z, 6, none⟩)) rfl rfl (by kernel_rfl) (by kernel_rfl) (by kernel_rfl) (fun _ _ _ h => h) (Or.inl ⟨by rfl, ?_⟩) hHeld ?_
        · intro w9 hSw
          (try dsimp only at hSw)
          go_simp
        (try simp only [Act.put, List.setIfInBounds_toArray, List.set_cons_zero, List.set_cons_succ])
        refine take_at 2 81 (.pointer (some ⟨w.heap.size + 1, 4, none⟩)) rfl rfl (by kernel_rfl) (by kernel_rfl) (by kernel_rfl) (fun _ _ _ h => h) (Or.inl ⟨by rfl, ?_⟩) hHeld ?_
        · intro w9 hSw
          (try dsimp only at hSw)
          go_simp
        (try simp only [Act.put, List.setIfInBounds_toArray, List.set_cons_zero, List.set_cons_succ])
        refine take_at 3 82 (.slice (some ⟨g, 0, none⟩) n rc) rfl rfl (by kernel_rfl) (by kernel_rfl) (by kernel_rfl) (fun _ _ _ h => h) (Or.inl ⟨by rfl, ?_⟩) hHeld ?_
        · intro w9 hSw
          (try dsimp only at hSw)
          go_simp
        (try simp only [Act.put, List.setIfInBounds_toArray, List.set_cons_zero, List.set_cons_succ])
        refine take_at 4 83 (.pointer (some ⟨xb, 2, none⟩)) rfl rfl (by kernel_rfl) (by kernel_rfl) (by kernel_rfl) (fun _ _ _ h => h) (Or.inl ⟨by rfl, ?_⟩) hHeld ?_
        · intro w9 hSw
          (try dsimp only at hSw)
          go_simp
        (try simp only [Act.put, List.setIfInBounds_toArray, List.set_cons_zero, List.set_cons_succ])
        refine take_at 5 84 (.int .i64 a) rfl rfl (by kernel_rfl) (by kernel_rfl) (by kernel_rfl) (fun _ _ _ h => h) (Or.inl ⟨by rfl, ?_⟩) hHeld ?_
        · intro w9 hSw
          (try dsimp only at hSw)
          go_simp
        (try simp only [Act.put, List.setIfInBounds_toArray, List.set_cons_zero, List.set_cons_succ])
        refine take_at 6 85 (.pointer (some ⟨g, a, none⟩)) rfl rfl (by kernel_rfl) (by kernel_rfl) (by kernel_rfl) (fun _ _ _ h => h) (Or.inl ⟨by rfl, ?_⟩) hHeld ?_
        · intro w9 hSw
          (try dsimp only at hSw)
          go_simp
        (try simp only [Act.put, List.setIfInBounds_toArray, List.set_cons_zero, List.set_cons_succ])
        refine take_at 7 86 (.int .i64 x) rfl rfl (by kernel_rfl) (by kernel_rfl) (by kernel_rfl) (fun _ _ _ h => h) (Or.inl ⟨by rfl, ?_⟩) hHeld ?_
        · intro w9 hSw
          (try dsimp only at hSw)
          go_simp
        (try simp only [Act.put, List.setIfInBounds_toArray, List.set_cons_zero, List.set_cons_succ])
        refine wpAnyH_ready (rs := [1, 8]) (by kernel_rfl) (by simp) ?_
        refine AllReadyH.cons rfl (fun K hK => ?_) ?_
        · go_simp
          refine hK.out _ _ (HK0.out) (fun hHeld => ?_)
          clear hK K
          refine wpAnyH_ready (rs := [8]) (by kernel_rfl) (by simp) ?_
          refine AllReadyH.cons rfl (fun K hK => ?_) ?_
          · go_simp
            refine hK.out _ _ (HK1.out) (fun hHeld => ?_)
            clear hK K
            refine wpAnyH_ready (rs := [9]) (by kernel_rfl) (by simp) ?_
            refine AllReadyH.cons rfl (fun K hK => ?_) ?_
            · refine step_append_any _ rfl (.tmp 80) (.tmp 87) 43 rfl (w.heap.size + 1 + 1 + 1) 2 i0 _ 1 8 Try.underlying43 hi hz0 hz1' hz2' rfl (by decide) (.slice OT m ot) m (ints tr) rfl HOA.out (W4.heap.size + 1) (some ⟨W4.heap.size, 0, none⟩) 1 1 (ints [x]) rfl HSX.out rfl (ints_one _) (by unfold maxLen; omega) (by omega) hlo1 ?_
              intro v5 W5 ho5 hg5 ha5
              obtain ⟨A5, c5, rfl, _, _⟩ := ownS_slice ho5
              have hgg : World.grownBy (W4.alloc (.cells #[.int .i64 x] 2)) W5 (Value.slice OT m ot).ownBlock := ⟨hg5.os, hg5.tape, hg5.output, hg5.size, hg5.block⟩
              obtain ⟨hrow, hI2, hbl2⟩ := HAP.out W5 A5 c5 hgg (by rw [ints_append]; exact ho5) ha5
              have f6' := hrow.cell 6; have r6 := hrow.frozen 6
              simp only [List.getElem?_toArray, List.getElem?_cons_zero, List.getElem?_cons_succ] at f6'
              have HI2 := Lib.hid (And.intro hI2 hbl2)
              have HKW := Lib.hid (HKg.out W5 hgg)
              clear ho5 hg5 ha5 hgg hrow hI2 hbl2
              refine hK.out _ _ (HKW.out) (fun hHeld => ?_)
              clear hK K
              refine take_at 10 89 (.pointer (some ⟨z, 6, none⟩)) rfl rfl (by kernel_rfl) (by kernel_rfl) (by kernel_rfl) (fun _ _ _ h => h) (Or.inl ⟨by rfl, ?_⟩) hHeld ?_
              · intro w9 hSw
                (try dsimp only at hSw)
                go_simp
              (try simp only [Act.put, List.setIfInBounds_toArray, List.set_cons_zero, List.set_cons_succ])
              refine wpAnyH_ready (rs := [11]) (by kernel_rfl) (by simp) ?_
              refine AllReadyH.cons rfl (fun K hK => ?_) ?_
              · go_simp
                refine hK.out _ _ ⟨(World.cell?_setCell_other _ _ _ _ (by simp [hhz])).trans HKW.out.1, (World.cell?_setCell_other _ _ _ _ (by simp [hxz])).trans HKW.out.2.1, (World.cell?_setCell_other _ _ _ _ (by simp [hgz])).trans HKW.out.2.2⟩ (fun hHeld => ?_)
                clear hK K
                refine wpAnyH_done (by kernel_rfl) ?_ _
                have HRS6 := Lib.hid ((HW4.out.res.below (HI2.out.2) (by omega)))
                have HB6 := Lib.hid (HW4.out.below.trans (HI2.out.2.mono (by omega)))
                clear hHeld HKW HAP HKb HKg HK0 HK1 HOA HSX hga4 s4 s2 f6 f6' r6 HW4 HIR
                generalize W5.setCell ⟨z, 6, none⟩ (.slice A5 (m + 1) c5) = W6 at *
                have f2 := HI2.out.1.row.cell 2; have f7 := HI2.out.1.row.cell 7; have q2 := HI2.out.1.row.frozen 2; have q7 := HI2.out.1.row.frozen 7
                simp only [List.getElem?_toArray, List.getElem?_cons_zero, List.getElem?_cons_succ] at f2 f7
                have HO : Hid (Ou ((W6.setCell ⟨z, 2, none⟩ (.int .i64 ((pos : Int) + 1))).setCell ⟨z, 7, none⟩ (.int .i64 ((steps : Int) + 1))) (w.heap.size + 1 + 1 + 1) z OA oc OS os A5 c5 ⟨st2, blk2, pos2, val2, regs2, tr2, steps2⟩) := by
                  rw [Hid, HE3.out]
                  exact (HI2.out.1.pPos (pos + 1)).pSteps (steps + 1)
                have HRS := Lib.hid ((HRS6.out.far (q := ⟨z, 2, none⟩) (by show _ ≠ z; omega) (.int .i64 ((pos : Int) + 1))).far (q := ⟨z, 7, none⟩) (by show _ ≠ z; omega) (.int .i64 ((steps : Int) + 1)))
                have HB := Lib.hid (blwq (blwq HB6.out (q := z) (by omega) 2 (.int .i64 ((pos : Int) + 1))) (q := z) (by omega) 7 (.int .i64 ((steps : Int) + 1)))
                clear HRS6 HB6 HI2 HE3
                go_upto_region 26 with fail
                clear f2 f7 q2 q7
                generalize (W6.setCell ⟨z, 2, none⟩ (.int .i64 ((pos : Int) + 1))).setCell ⟨z, 7, none⟩ (.int .i64 ((steps : Int) + 1)) = W7 at *
                have f0 := HO.out.row.cell 0; have f1 := HO.out.row.cell 1; have f2 := HO.out.row.cell 2; have f3 := HO.out.row.cell 3; have f4 := HO.out.row.cell 4; have f5 := HO.out.row.cell 5; have f6 := HO.out.row.cell 6; have f7 := HO.out.row.cell 7
                have g0 := HRS.out.cell 0; have g1 := HRS.out.cell 1; have g2 := HRS.out.cell 2; have g3 := HRS.out.cell 3; have g4 := HRS.out.cell 4; have g5 := HRS.out.cell 5; have g6 := HRS.out.cell 6; have g7 := HRS.out.cell 7
                have r0 := HRS.out.frozen 0; have r1 := HRS.out.frozen 1; have r2 := HRS.out.frozen 2; have r3 := HRS.out.frozen 3; have r4 := HRS.out.frozen 4; have r5 := HRS.out.frozen 5; have r6 := HRS.out.frozen 6; have r7 := HRS.out.frozen 7
                simp only [List.getElem?_toArray, List.getElem?_cons_zero, List.getElem?_cons_succ] at f0 f1 f2 f3 f4 f5 f6 f7 g0 g1 g2 g3 g4 g5 g6 g7
                go_wp2
                (try simp only [Exit.inBlock, Exit.then])
                refine bodyPost_ret (v := .agg #[.int .i64 st2, .int .i64 (blk2 : Int), .int .i64 (pos2 : Int), .int .i64 val2, .slice OA regs2.length oc, .slice OS 0 os, .slice A5 tr2.length c5, .int .i64 (steps2 : Int)]) ?_ rfl ⟨OA, oc, OS, os, A5, c5, rfl, (HO.out.v.mods (mods8 W7 (w.heap.size + 1 + 1) _ _ _ _ _ _ _ _) (fun k hk => .inl (by unfold Is at hk; omega))).base (by omega), ?_⟩
                · exact results_cell_row rfl _ _ (w.heap.size + 1 + 1) 46 #[.int .i64 st2, .int .i64 (blk2 : Int), .int .i64 (pos2 : Int), .int .i64 val2, .slice OA regs2.length oc, .slice OS 0 os, .slice A5 tr2.length c5, .int .i64 (steps2 : Int)] (0, 0) _ rfl (HRS.out.put8 _ _ _ _ _ _ _ _) Try.underlying46 rfl (by kernel_rfl)
                · exact blw8 (by omega) HB.out _ _ _ _ _ _ _ _
              exact AllReadyH.nil
            exact AllReadyH.nil
          exact AllReadyH.nil
        refine AllReadyH.cons rfl (fun K hK => ?_) ?_
        · go_simp
          refine hK.out _ _ (HK1.out) (fun hHeld => ?_)
          clear hK K
          refine wpAnyH_ready (rs := [1]) (by kernel_rfl) (by simp) ?_
          refine AllReadyH.cons rfl (fun K hK => ?_) ?_
          · go_simp
            refine hK.out _ _ (HK1.out) (fun hHeld => ?_)
            clear hK K
            refine wpAnyH_ready (rs := [9]) (by kernel_rfl) (by simp) ?_
            refine AllReadyH.cons rfl (fun K hK => ?_) ?_
            · refine step_append_any _ rfl (.tmp 80) (.tmp 87) 43 rfl (w.heap.size + 1 + 1 + 1) 2 i0 _ 1 8 Try.underlying43 hi hz0 hz1' hz2' rfl (by decide) (.slice OT m ot) m (ints tr) rfl HOA.out (W4.heap.size + 1) (some ⟨W4.heap.size, 0, none⟩) 1 1 (ints [x]) rfl HSX.out rfl (ints_one _) (by unfold maxLen; omega) (by omega) hlo1 ?_
              intro v5 W5 ho5 hg5 ha5
              obtain ⟨A5, c5, rfl, _, _⟩ := ownS_slice ho5
              have hgg : World.grownBy (W4.alloc (.cells #[.int .i64 x] 2)) W5 (Value.slice OT m ot).ownBlock := ⟨hg5.os, hg5.tape, hg5.output, hg5.size, hg5.block⟩
              obtain ⟨hrow, hI2, hbl2⟩ := HAP.out W5 A5 c5 hgg (by rw [ints_append]; exact ho5) ha5
              have f6' := hrow.cell 6; have r6 := hrow.frozen 6
              simp only [List.getElem?_toArray, List.getElem?_cons_zero, List.getElem?_cons_succ] at f6'
              have HI2 := Lib.hid (And.intro hI2 hbl2)
              have HKW := Lib.hid (HKg.out W5 hgg)
              clear ho5 hg5 ha5 hgg hrow hI2 hbl2
              refine hK.out _ _ (HKW.out) (fun hHeld => ?_)
              clear hK K
              refine take_at 10 89 (.pointer (some ⟨z, 6, none⟩)) rfl rfl (by kernel_rfl) (by kernel_rfl) (by kernel_rfl) (fun _ _ _ h => h) (Or.inl ⟨by rfl, ?_⟩) hHeld ?_
              · intro w9 hSw
                (try dsimp only at hSw)
                go_simp
              (try simp only [Act.put, List.setIfInBounds_toArray, List.set_cons_zero, List.set_cons_succ])
              refine wpAnyH_ready (rs := [11]) (by kernel_rfl) (by simp) ?_
              refine AllReadyH.cons rfl (fun K hK => ?_) ?_
              · go_simp
                refine hK.out _ _ ⟨(World.cell?_setCell_other _ _ _ _ (by simp [hhz])).trans HKW.out.1, (World.cell?_setCell_other _ _ _ _ (by simp [hxz])).trans HKW.out.2.1, (World.cell?_setCell_other _ _ _ _ (by simp [hgz])).trans HKW.out.2.2⟩ (fun hHeld => ?_)
                clear hK K
                refine wpAnyH_done (by kernel_rfl) ?_ _
                have HRS6 := Lib.hid ((HW4.out.res.below (HI2.out.2) (by omega)))
                have HB6 := Lib.hid (HW4.out.below.trans (HI2.out.2.mono (by omega)))
                clear hHeld HKW HAP HKb HKg HK0 HK1 HOA HSX hga4 s4 s2 f6 f6' r6 HW4 HIR
                generalize W5.setCell ⟨z, 6, none⟩ (.slice A5 (m + 1) c5) = W6 at *
                have f2 := HI2.out.1.row.cell 2; have f7 := HI2.out.1.row.cell 7; have q2 := HI2.out.1.row.frozen 2; have q7 := HI2.out.1.row.frozen 7
                simp only [List.getElem?_toArray, List.getElem?_cons_zero, List.getElem?_cons_succ] at f2 f7
                have HO : Hid (Ou ((W6.setCell ⟨z, 2, none⟩ (.int .i64 ((pos : Int) + 1))).setCell ⟨z, 7, none⟩ (.int .i64 ((steps : Int) + 1))) (w.heap.size + 1 + 1 + 1) z OA oc OS os A5 c5 ⟨st2, blk2, pos2, val2, regs2, tr2, steps2⟩) := by
                  rw [Hid, HE3.out]
                  exact (HI2.out.1.pPos (pos + 1)).pSteps (steps + 1)
                have HRS := Lib.hid ((HRS6.out.far (q := ⟨z, 2, none⟩) (by show _ ≠ z; omega) (.int .i64 ((pos : Int) + 1))).far (q := ⟨z, 7, none⟩) (by show _ ≠ z; omega) (.int .i64 ((steps : Int) + 1)))
                have HB := Lib.hid (blwq (blwq HB6.out (q := z) (by omega) 2 (.int .i64 ((pos : Int) + 1))) (q := z) (by omega) 7 (.int .i64 ((steps : Int) + 1)))
                clear HRS6 HB6 HI2 HE3
                go_upto_region 26 with fail
                clear f2 f7 q2 q7
                generalize (W6.setCell ⟨z, 2, none⟩ (.int .i64 ((pos : Int) + 1))).setCell ⟨z, 7, none⟩ (.int .i64 ((steps : Int) + 1)) = W7 at *
                have f0 := HO.out.row.cell 0; have f1 := HO.out.row.cell 1; have f2 := HO.out.row.cell 2; have f3 := HO.out.row.cell 3; have f4 := HO.out.row.cell 4; have f5 := HO.out.row.cell 5; have f6 := HO.out.row.cell 6; have f7 := HO.out.row.cell 7
                have g0 := HRS.out.cell 0; have g1 := HRS.out.cell 1; have g2 := HRS.out.cell 2; have g3 := HRS.out.cell 3; have g4 := HRS.out.cell 4; have g5 := HRS.out.cell 5; have g6 := HRS.out.cell 6; have g7 := HRS.out.cell 7
                have r0 := HRS.out.frozen 0; have r1 := HRS.out.frozen 1; have r2 := HRS.out.frozen 2; have r3 := HRS.out.frozen 3; have r4 := HRS.out.frozen 4; have r5 := HRS.out.frozen 5; have r6 := HRS.out.frozen 6; have r7 := HRS.out.frozen 7
                simp only [List.getElem?_toArray, List.getElem?_cons_zero, List.getElem?_cons_succ] at f0 f1 f2 f3 f4 f5 f6 f7 g0 g1 g2 g3 g4 g5 g6 g7
                go_wp2
                (try simp only [Exit.inBlock, Exit.then])
                refine bodyPost_ret (v := .agg #[.int .i64 st2, .int .i64 (blk2 : Int), .int .i64 (pos2 : Int), .int .i64 val2, .slice OA regs2.length oc, .slice OS 0 os, .slice A5 tr2.length c5, .int .i64 (steps2 : Int)]) ?_ rfl ⟨OA, oc, OS, os, A5, c5, rfl, (HO.out.v.mods (mods8 W7 (w.heap.size + 1 + 1) _ _ _ _ _ _ _ _) (fun k hk => .inl (by unfold Is at hk; omega))).base (by omega), ?_⟩
                · exact results_cell_row rfl _ _ (w.heap.size + 1 + 1) 46 #[.int .i64 st2, .int .i64 (blk2 : Int), .int .i64 (pos2 : Int), .int .i64 val2, .slice OA regs2.length oc, .slice OS 0 os, .slice A5 tr2.length c5, .int .i64 (steps2 : Int)] (0, 0) _ rfl (HRS.out.put8 _ _ _ _ _ _ _ _) Try.underlying46 rfl (by kernel_rfl)
                · exact blw8 (by omega) HB.out _ _ _ _ _ _ _ _
              exact AllReadyH.nil
            exact AllReadyH.nil
          exact AllReadyH.nil
        exact AllReadyH.nil
      · have e17 : (op == 17) = false := by simp [h17]
        obtain ⟨bb, rfl⟩ := Int.eq_ofNat_of_zero_le hb0
        obtain ⟨dd, rfl⟩ := Int.eq_ofNat_of_zero_le hd0
        have hbn2 : bb < regs.length := by omega
        have hdn : dd < regs.length := by omega
        have hgb4 : W4.cell? ⟨g, bb, none⟩ = some (.int .i64 (rg regs (bb : Int))) := by
          obtain ⟨g', e, hc⟩ := regs_at HV.out.regs hbn2
          injection e with e
          injection e with e _ _
          subst e
          exact (HW4.out.below.cell (p := ⟨g, bb, none⟩) hgl).trans hc
        have hxa := HG.out.reg (k := (a : Int)) ha0 ha1
        have hxb' := HG.out.reg (k := (bb : Int)) hb0 hb1'
        dsimp only at hxa hxb'
        have HE3 : Hid ((⟨st2, blk2, pos2, val2, regs2, tr2, steps2⟩ : Rn) = if evo op (rg regs (bb : Int)) = true then ⟨0, blk, pos + 1, val, regs.set dd (ev op (rg regs (a : Int)) (rg regs (bb : Int)) imm), tr, steps + 1⟩ else ⟨2, blk, pos, val, regs, tr, steps⟩) := by
          rw [Hid, HE2.out, perf, if_neg h17]
          rfl
        have hG : RX w args regs0 (some ⟨b, o, none⟩) nb bc (some ⟨g, 0, none⟩) rc SA sc TA tc ⟨0, blk, pos, val, regs, tr, steps⟩ z OA oc OS os OT ot ⟨0, blk, pos, val, regs, tr, steps⟩ xb ⟨op, (dd : Int), (a : Int), (bb : Int), imm⟩ W4 := ⟨HW4.out, HIR.out⟩
        have HGC : Hid (∀ W, RX w args regs0 (some ⟨b, o, none⟩) nb bc (some ⟨g, 0, none⟩) rc SA sc TA tc ⟨0, blk, pos, val, regs, tr, steps⟩ z OA oc OS os OT ot ⟨0, blk, pos, val, regs, tr, steps⟩ xb ⟨op, (dd : Int), (a : Int), (bb : Int), imm⟩ W → (RX w args regs0 (some ⟨b, o, none⟩) nb bc (some ⟨g, 0, none⟩) rc SA sc TA tc ⟨0, blk, pos, val, regs, tr, steps⟩ z OA oc OS os OT ot ⟨0, blk, pos, val, regs, tr, steps⟩ xb ⟨op, (dd : Int), (a : Int), (bb : Int), imm⟩ W ∧ W.cell? ⟨xb, 0, none⟩ = some (.int .i64 op) ∧ W.cell? ⟨xb, 2, none⟩ = some (.int .i64 (a : Int)) ∧ W.cell? ⟨xb, 3, none⟩ = some (.int .i64 (bb : Int)) ∧ W.cell? ⟨xb, 4, none⟩ = some (.int .i64 imm) ∧ W.cell? ⟨w.heap.size + 1, 4, none⟩ = some (.slice (some ⟨g, 0, none⟩) regs.length rc) ∧ W.cell? ⟨g, a, none⟩ = some (.int .i64 (rg regs (a : Int))) ∧ W.cell? ⟨g, bb, none⟩ = some (.int .i64 (rg regs (bb : Int))))) := fun W h =>
          ⟨h, h.ix.cell 0, h.ix.cell 2, h.ix.cell 3, h.ix.cell 4, h.rs.bx.cell 4, (h.rs.below.cell (p := ⟨g, a, none⟩) hgl).trans hga, by
            obtain ⟨g', e, hc⟩ := regs_at HV.out.regs hbn2
            injection e with e
            injection e with e _ _
            subst e
            exact (h.rs.below.cell (p := ⟨g, bb, none⟩) hgl).trans hc⟩
        have C1 := Lib.hid fun W (h : RX w args regs0 (some ⟨b, o, none⟩) nb bc (some ⟨g, 0, none⟩) rc SA sc TA tc ⟨0, blk, pos, val, regs, tr, steps⟩ z OA oc OS os OT ot ⟨0, blk, pos, val, regs, tr, steps⟩ xb ⟨op, (dd : Int), (a : Int), (bb : Int), imm⟩ W) => (reval_any op (rg regs (a : Int)) (rg regs (bb : Int)) imm W hxa hxb').mono fun e w' ⟨he, hb⟩ => (⟨he, h.next hb⟩ : e = _ ∧ RX w args regs0 (some ⟨b, o, none⟩) nb bc (some ⟨g, 0, none⟩) rc SA sc TA tc ⟨0, blk, pos, val, regs, tr, steps⟩ z OA oc OS os OT ot ⟨0, blk, pos, val, regs, tr, steps⟩ xb ⟨op, (dd : Int), (a : Int), (bb : Int), imm⟩ w')
        clear HE2 hxa hxb' hga HW4 HIR
        generalize rg regs (a : Int) = x at *
        generalize rg regs (bb : Int) = yy at *
        generalize ev op x yy imm = v at *
        generalize evo op yy = ok at *
        obtain ⟨_, s1, s2, s3, s4, s5, s6, s7⟩ := HGC.out _ hG
        go_upto_region 19 with fail
        go_region_held3 (fun w' => RX w args regs0 (some ⟨b, o, none⟩) nb bc (some ⟨g, 0, none⟩) rc SA sc TA tc ⟨0, blk, pos, val, regs, tr, steps⟩ z OA oc OS os OT ot ⟨0, blk, pos, val, regs, tr, steps⟩ xb ⟨op, (dd : Int), (a : Int), (bb : Int), imm⟩ w' ∧ w'.cell? ⟨xb, 0, none⟩ = some (.int .i64 op) ∧ w'.cell? ⟨xb, 2, none⟩ = some (.int .i64 (a : Int)) ∧ w'.cell? ⟨xb, 3, none⟩ = some (.int .i64 (bb : Int)) ∧ w'.cell? ⟨xb, 4, none⟩ = some (.int .i64 imm) ∧ w'.cell? ⟨w.heap.size + 1, 4, none⟩ = some (.slice (some ⟨g, 0, none⟩) regs.length rc) ∧ w'.cell? ⟨g, a, none⟩ = some (.int .i64 x) ∧ w'.cell? ⟨g, bb, none⟩ = some (.int .i64 yy)) (first | exact HGC.out _ hG | exact HGC.out _ hG.drew | exact HGC.out _ (hG.drewN _)) (first
          | (go_at_call 42; go_must ((with_reducible refine (C1.out _ (by first | exact hG | exact hG.drew | exact hG.drewN _)).mono ?_); rintro e W5 ⟨rfl, hG⟩))
          )
        obtain ⟨gq, hg2, _⟩ := regs_at hG.rs.ou.v.regs hdn
        subst hg2
        have hrc := reg_cello hG.rs.ou hdn
        have hrf := own_frozen hG.rs.ou.v.regs (g := gq) (k := dd) rfl
        have hgqz : ¬ gq = z := hG.rs.ou.nr gq rfl
        have f0 := hG.rs.ou.row.cell 0; have f4 := hG.rs.ou.row.cell 4; have q0 := hG.rs.ou.row.frozen 0; have i1 := hG.ix.cell 1
        simp only [List.getElem?_toArray, List.getElem?_cons_zero, List.getElem?_cons_succ] at f0 f4 i1
        have HG5 := Lib.hid hG.rs
        clear hG s1 s2 s3 s4 s5 s6 s7 C1 HGC hgb4 hga4
        cases ok
        · have hX := HE3.out
          rw [if_neg (by decide)] at hX
          have HX2 := Lib.hid hX
          clear hX HE3
          have HO : Hid (Ou (W5.setCell ⟨z, 0, none⟩ (.int .i64 2)) (w.heap.size + 1 + 1 + 1) z (some ⟨gq, 0, none⟩) oc OS os OT ot ⟨st2, blk2, pos2, val2, regs2, tr2, steps2⟩) := by
            rw [Hid, HX2.out]
            exact HG5.out.ou.pSt 2
          have HRS := Lib.hid (HG5.out.res.far (q := ⟨z, 0, none⟩) (by show _ ≠ z; omega) (.int .i64 2))
          have HB := Lib.hid (blwq HG5.out.below (q := z) (by omega) 0 (.int .i64 2))
          clear HX2 HG5
          go_upto_region 22 with fail
          clear f0 f4 q0 i1 hrc hrf
          generalize W5.setCell ⟨z, 0, none⟩ (.int .i64 2) = W7 at *
          have f0 := HO.out.row.cell 0; have f1 := HO.out.row.cell 1; have f2 := HO.out.row.cell 2; have f3 := HO.out.row.cell 3; have f4 := HO.out.row.cell 4; have f5 := HO.out.row.cell 5; have f6 := HO.out.row.cell 6; have f7 := HO.out.row.cell 7
          have g0 := HRS.out.cell 0; have g1 := HRS.out.cell 1; have g2 := HRS.out.cell 2; have g3 := HRS.out.cell 3; have g4 := HRS.out.cell 4; have g5 := HRS.out.cell 5; have g6 := HRS.out.cell 6; have g7 := HRS.out.cell 7
          have r0 := HRS.out.frozen 0; have r1 := HRS.out.frozen 1; have r2 := HRS.out.frozen 2; have r3 := HRS.out.frozen 3; have r4 := HRS.out.frozen 4; have r5 := HRS.out.frozen 5; have r6 := HRS.out.frozen 6; have r7 := HRS.out.frozen 7
          simp only [List.getElem?_toArray, List.getElem?_cons_zero, List.getElem?_cons_succ] at f0 f1 f2 f3 f4 f5 f6 f7 g0 g1 g2 g3 g4 g5 g6 g7
          go_wp2
          (try simp only [Exit.inBlock, Exit.then])
          refine bodyPost_ret (v := .agg #[.int .i64 st2, .int .i64 (blk2 : Int), .int .i64 (pos2 : Int), .int .i64 val2, .slice (some ⟨gq, 0, none⟩) regs2.length oc, .slice OS 0 os, .slice OT tr2.length ot, .int .i64 (steps2 : Int)]) ?_ rfl ⟨(some ⟨gq, 0, none⟩), oc, OS, os, OT, ot, rfl, (HO.out.v.mods (mods8 W7 (w.heap.size + 1 + 1) _ _ _ _ _ _ _ _) (fun k hk => .inl (by unfold Is at hk; omega))).base (by omega), ?_⟩
          · exact results_cell_row rfl _ _ (w.heap.size + 1 + 1) 46 #[.int .i64 st2, .int .i64 (blk2 : Int), .int .i64 (pos2 : Int), .int .i64 val2, .slice (some ⟨gq, 0, none⟩) regs2.length oc, .slice OS 0 os, .slice OT tr2.length ot, .int .i64 (steps2 : Int)] (0, 0) _ rfl (HRS.out.put8 _ _ _ _ _ _ _ _) Try.underlying46 rfl (by kernel_rfl)
          · exact blw8 (by omega) HB.out _ _ _ _ _ _ _ _
        · have hX := HE3.out
          rw [if_pos rfl] at hX
          have HX2 := Lib.hid hX
          clear hX HE3
          obtain ⟨hI4, hb4⟩ := HG5.out.ou.setreg (v := v) hdn
          have HRS6 := Lib.hid (HG5.out.res.below hb4 (by omega))
          have HB6 := Lib.hid (HG5.out.below.trans (hb4.mono (by omega)))
          have HI2 := Lib.hid hI4
          clear hI4 hb4 HG5
          go_upto_region 24 with fail
          clear f0 f4 q0 i1 hrc hrf
          generalize W5.setCell ⟨gq, dd, none⟩ (.int .i64 v) = W6 at *
          have f2 := HI2.out.row.cell 2; have f7 := HI2.out.row.cell 7; have q2 := HI2.out.row.frozen 2; have q7 := HI2.out.row.frozen 7
          simp only [List.getElem?_toArray, List.getElem?_cons_zero, List.getElem?_cons_succ] at f2 f7
          have HO : Hid (Ou ((W6.setCell ⟨z, 2, none⟩ (.int .i64 ((pos : Int) + 1))).setCell ⟨z, 7, none⟩ (.int .i64 ((steps : Int) + 1))) (w.heap.size + 1 + 1 + 1) z (some ⟨gq, 0, none⟩) oc OS os OT ot ⟨st2, blk2, pos2, val2, regs2, tr2, steps2⟩) := by
            rw [Hid, HX2.out]
            exact (HI2.out.pPos (pos + 1)).pSteps (steps + 1)
          have HRS := Lib.hid ((HRS6.out.far (q := ⟨z, 2, none⟩) (by show _ ≠ z; omega) (.int .i64 ((pos : Int) + 1))).far (q := ⟨z, 7, none⟩) (by show _ ≠ z; omega) (.int .i64 ((steps : Int) + 1)))
          have HB := Lib.hid (blwq (blwq HB6.out (q := z) (by omega) 2 (.int .i64 ((pos : Int) + 1))) (q := z) (by omega) 7 (.int .i64 ((steps : Int) + 1)))
          clear HRS6 HB6 HI2 HX2
          go_upto_region 26 with fail
          clear f2 f7 q2 q7
          generalize (W6.setCell ⟨z, 2, none⟩ (.int .i64 ((pos : Int) + 1))).setCell ⟨z, 7, none⟩ (.int .i64 ((steps : Int) + 1)) = W7 at *
          have f0 := HO.out.row.cell 0; have f1 := HO.out.row.cell 1; have f2 := HO.out.row.cell 2; have f3 := HO.out.row.cell 3; have f4 := HO.out.row.cell 4; have f5 := HO.out.row.cell 5; have f6 := HO.out.row.cell 6; have f7 := HO.out.row.cell 7
          have g0 := HRS.out.cell 0; have g1 := HRS.out.cell 1; have g2 := HRS.out.cell 2; have g3 := HRS.out.cell 3; have g4 := HRS.out.cell 4; have g5 := HRS.out.cell 5; have g6 := HRS.out.cell 6; have g7 := HRS.out.cell 7
          have r0 := HRS.out.frozen 0; have r1 := HRS.out.frozen 1; have r2 := HRS.out.frozen 2; have r3 := HRS.out.frozen 3; have r4 := HRS.out.frozen 4; have r5 := HRS.out.frozen 5; have r6 := HRS.out.frozen 6; have r7 := HRS.out.frozen 7
          simp only [List.getElem?_toArray, List.getElem?_cons_zero, List.getElem?_cons_succ] at f0 f1 f2 f3 f4 f5 f6 f7 g0 g1 g2 g3 g4 g5 g6 g7
          go_wp2
          (try simp only [Exit.inBlock, Exit.then])
          refine bodyPost_ret (v := .agg #[.int .i64 st2, .int .i64 (blk2 : Int), .int .i64 (pos2 : Int), .int .i64 val2, .slice (some ⟨gq, 0, none⟩) regs2.length oc, .slice OS 0 os, .slice OT tr2.length ot, .int .i64 (steps2 : Int)]) ?_ rfl ⟨(some ⟨gq, 0, none⟩), oc, OS, os, OT, ot, rfl, (HO.out.v.mods (mods8 W7 (w.heap.size + 1 + 1) _ _ _ _ _ _ _ _) (fun k hk => .inl (by unfold Is at hk; omega))).base (by omega), ?_⟩
          · exact results_cell_row rfl _ _ (w.heap.size + 1 + 1) 46 #[.int .i64 st2, .int .i64 (blk2 : Int), .int .i64 (pos2 : Int), .int .i64 val2, .slice (some ⟨gq, 0, none⟩) regs2.length oc, .slice OS 0 os, .slice OT tr2.length ot, .int .i64 (steps2 : Int)] (0, 0) _ rfl (HRS.out.put8 _ _ _ _ _ _ _ _) Try.underlying46 rfl (by kernel_rfl)
          · exact blw8 (by omega) HB.out _ _ _ _ _ _ _ _
    · obtain hpe : pos = y.code.length := by omega
      have e5 : ((pos : Int) == (y.code.length : Int)) = true := by simp [hpe]
      have HE2 : Hid ((⟨st2, blk2, pos2, val2, regs2, tr2, steps2⟩ : Rn) = leav y.term ⟨0, blk, pos, val, regs, tr, steps⟩) := by rw [Hid, HEE.out, dif_neg hlt]
      clear HIN HEE hins hpe hlt
      obtain ⟨code, ⟨kind, ta, tt, el⟩⟩ := y
      dsimp only at *
      have f7 := HW3.out.ou.row.cell 7; have q7 := HW3.out.ou.row.frozen 7; have k1 := HBK.out.cell 1
      simp only [List.getElem?_toArray, List.getElem?_cons_zero, List.getElem?_cons_succ] at f7 k1
      have hyz : ¬ yb = z := by omega
      have hm7 := (Mods.refl (Is z) W3).put 7 (.int .i64 ((steps : Int) + 1))
      have hnz : ∀ k, k < w.heap.size + 1 + 1 + 1 → ¬ Is z k := fun k hk hs => by unfold Is at hs; omega
      have HBK4 := Lib.hid (HBK.out.mods hm7 hyz)
      have HBX4 := Lib.hid (HW3.out.bx.mods hm7 (hnz _ (by omega)))
      have HRS4 := Lib.hid (HW3.out.res.mods hm7 (hnz _ (by omega)))
      have HB4 := Lib.hid (blwq HW3.out.below (q := z) (by omega) 7 (.int .i64 ((steps : Int) + 1)))
      have HO4 : Hid (Ou (W3.setCell ⟨z, 7, none⟩ (.int .i64 ((steps : Int) + 1))) (w.heap.size + 1 + 1 + 1) z OA oc OS os OT ot ⟨0, blk, pos, val, regs, tr, steps + 1⟩) := HW3.out.ou.pSteps (steps + 1)
      go_upto_region 7 with fail
      clear f7 q7 k1 p2 k0 e5 hm7 HW3 HBK
      generalize W3.setCell ⟨z, 7, none⟩ (.int .i64 ((steps : Int) + 1)) = W4 at *
      have k1 := HBK4.out.cell 1; have k2 := HBK4.out.cell 2; have k3 := HBK4.out.cell 3; have k4 := HBK4.out.cell 4; have s4 := HBX4.out.cell 4
      have f0 := HO4.out.row.cell 0; have f1 := HO4.out.row.cell 1; have f2 := HO4.out.row.cell 2; have f3 := HO4.out.row.cell 3; have q0 := HO4.out.row.frozen 0; have q1 := HO4.out.row.frozen 1; have q2 := HO4.out.row.frozen 2; have q3 := HO4.out.row.frozen 3
      simp only [List.getElem?_toArray, List.getElem?_cons_zero, List.getElem?_cons_succ] at k1 k2 k3 k4 s4 f0 f1 f2 f3
      have hhz : ¬ w.heap.size + 1 = z := by omega
      rcases htm with ⟨hk, ht0, ht1⟩ | ⟨hk, ha0, ha1, ht0, ht1, he0, he1⟩ | ⟨hk, ha0, ha1⟩
      · dsimp only at hk ht0 ht1
        subst hk
        obtain ⟨tn, rfl⟩ := Int.eq_ofNat_of_zero_le ht0
        have HE3 : Hid ((⟨st2, blk2, pos2, val2, regs2, tr2, steps2⟩ : Rn) = ⟨0, tn, 0, val, regs, tr, steps + 1⟩) := by
          rw [Hid, HE2.out, leav, if_neg (show ¬ (1 : Int) = 3 by decide)]
          simp
        have HO : Hid (Ou ((W4.setCell ⟨z, 1, none⟩ (.int .i64 (tn : Int))).setCell ⟨z, 2, none⟩ (.int .i64 0)) (w.heap.size + 1 + 1 + 1) z OA oc OS os OT ot ⟨st2, blk2, pos2, val2, regs2, tr2, steps2⟩) := by
          rw [Hid, HE3.out]
          exact (HO4.out.pBlk tn).pPos 0
        have HRS := Lib.hid ((HRS4.out.far (q := ⟨z, 1, none⟩) (by show _ ≠ z; omega) (.int .i64 (tn : Int))).far (q := ⟨z, 2, none⟩) (by show _ ≠ z; omega) (.int .i64 0))
        have HB := Lib.hid (blwq (blwq HB4.out (q := z) (by omega) 1 (.int .i64 (tn : Int))) (q := z) (by omega) 2 (.int .i64 0))
        clear HE3 HE2 HRS4 HB4 HO4 ht0 ht1
        go_upto_region 15 with fail
        clear k1 k2 k3 k4 s4 f0 f1 f2 f3 q0 q1 q2 q3 HBX4 HBK4
        generalize (W4.setCell ⟨z, 1, none⟩ (.int .i64 (tn : Int))).setCell ⟨z, 2, none⟩ (.int .i64 0) = W7 at *
        have f0 := HO.out.row.cell 0; have f1 := HO.out.row.cell 1; have f2 := HO.out.row.cell 2; have f3 := HO.out.row.cell 3; have f4 := HO.out.row.cell 4; have f5 := HO.out.row.cell 5; have f6 := HO.out.row.cell 6; have f7 := HO.out.row.cell 7
        have g0 := HRS.out.cell 0; have g1 := HRS.out.cell 1; have g2 := HRS.out.cell 2; have g3 := HRS.out.cell 3; have g4 := HRS.out.cell 4; have g5 := HRS.out.cell 5; have g6 := HRS.out.cell 6; have g7 := HRS.out.cell 7
        have r0 := HRS.out.frozen 0; have r1 := HRS.out.frozen 1; have r2 := HRS.out.frozen 2; have r3 := HRS.out.frozen 3; have r4 := HRS.out.frozen 4; have r5 := HRS.out.frozen 5; have r6 := HRS.out.frozen 6; have r7 := HRS.out.frozen 7
        simp only [List.getElem?_toArray, List.getElem?_cons_zero, List.getElem?_cons_succ] at f0 f1 f2 f3 f4 f5 f6 f7 g0 g1 g2 g3 g4 g5 g6 g7
        go_wp2
        (try simp only [Exit.inBlock, Exit.then])
        refine bodyPost_ret (v := .agg #[.int .i64 st2, .int .i64 (blk2 : Int), .int .i64 (pos2 : Int), .int .i64 val2, .slice OA regs2.length oc, .slice OS 0 os, .slice OT tr2.length ot, .int .i64 (steps2 : Int)]) ?_ rfl ⟨OA, oc, OS, os, OT, ot, rfl, (HO.out.v.mods (mods8 W7 (w.heap.size + 1 + 1) _ _ _ _ _ _ _ _) (fun k hk => .inl (by unfold Is at hk; omega))).base (by omega), ?_⟩
        · exact results_cell_row rfl _ _ (w.heap.size + 1 + 1) 46 #[.int .i64 st2, .int .i64 (blk2 : Int), .int .i64 (pos2 : Int), .int .i64 val2, .slice OA regs2.length oc, .slice OS 0 os, .slice OT tr2.length ot, .int .i64 (steps2 : Int)] (0, 0) _ rfl (HRS.out.put8 _ _ _ _ _ _ _ _) Try.underlying46 rfl (by kernel_rfl)
        · exact blw8 (by omega) HB.out _ _ _ _ _ _ _ _
      · dsimp only at hk ha0 ha1 ht0 ht1 he0 he1
        subst hk
        obtain ⟨a, rfl⟩ := Int.eq_ofNat_of_zero_le ha0
        obtain ⟨tn, rfl⟩ := Int.eq_ofNat_of_zero_le ht0
        obtain ⟨en, rfl⟩ := Int.eq_ofNat_of_zero_le he0
        have han : a < regs.length := by omega
        obtain ⟨g, rfl, hga⟩ := regs_at HV.out.regs han
        have hgl := (ownS_lt HV.out.regs g rfl).2
        have hga4 := (HB4.out.cell (p := ⟨g, a, none⟩) hgl).trans hga
        have hgz : ¬ g = z := by omega
        have HE3 : Hid ((⟨st2, blk2, pos2, val2, regs2, tr2, steps2⟩ : Rn) = ⟨0, if rg regs (a : Int) = 0 then en else tn, 0, val, regs, tr, steps + 1⟩) := by
          rw [Hid, HE2.out, leav, if_neg (show ¬ (2 : Int) = 3 by decide)]
          simp
        clear HE2 ha0 ha1 ht0 ht1 he0 he1 hga
        dsimp only at hga4
        generalize rg regs (a : Int) = x at *
        by_cases hx : x = 0
        · subst hx
          have hX := HE3.out
          rw [if_pos rfl] at hX
          have HX2 := Lib.hid hX
          clear hX HE3
          have HO : Hid (Ou (((W4.setCell ⟨z, 1, none⟩ (.int .i64 (tn : Int))).setCell ⟨z, 1, none⟩ (.int .i64 (en : Int))).setCell ⟨z, 2, none⟩ (.int .i64 0)) (w.heap.size + 1 + 1 + 1) z OA oc OS os OT ot ⟨st2, blk2, pos2, val2, regs2, tr2, steps2⟩) := by
            rw [Hid, HX2.out]
            exact ((HO4.out.pBlk tn).pBlk en).pPos 0
          have HRS := Lib.hid (((HRS4.out.far (q := ⟨z, 1, none⟩) (by show _ ≠ z; omega) (.int .i64 (tn : Int))).far (q := ⟨z, 1, none⟩) (by show _ ≠ z; omega) (.int .i64 (en : Int))).far (q := ⟨z, 2, none⟩) (by show _ ≠ z; omega) (.int .i64 0))
          have HB := Lib.hid (blwq (blwq (blwq HB4.out (q := z) (by omega) 1 (.int .i64 (tn : Int))) (q := z) (by omega) 1 (.int .i64 (en : Int))) (q := z) (by omega) 2 (.int .i64 0))
          clear HX2 HRS4 HB4 HO4
          go_upto_region 15 with fail
          clear k1 k2 k3 k4 s4 f0 f1 f2 f3 q0 q1 q2 q3 HBX4 HBK4 hga4
          generalize ((W4.setCell ⟨z, 1, none⟩ (.int .i64 (tn : Int))).setCell ⟨z, 1, none⟩ (.int .i64 (en : Int))).setCell ⟨z, 2, none⟩ (.int .i64 0) = W7 at *
          have f0 := HO.out.row.cell 0; have f1 := HO.out.row.cell 1; have f2 := HO.out.row.cell 2; have f3 := HO.out.row.cell 3; have f4 := HO.out.row.cell 4; have f5 := HO.out.row.cell 5; have f6 := HO.out.row.cell 6; have f7 := HO.out.row.cell 7
          have g0 := HRS.out.cell 0; have g1 := HRS.out.cell 1; have g2 := HRS.out.cell 2; have g3 := HRS.out.cell 3; have g4 := HRS.out.cell 4; have g5 := HRS.out.cell 5; have g6 := HRS.out.cell 6; have g7 := HRS.out.cell 7
          have r0 := HRS.out.frozen 0; have r1 := HRS.out.frozen 1; have r2 := HRS.out.frozen 2; have r3 := HRS.out.frozen 3; have r4 := HRS.out.frozen 4; have r5 := HRS.out.frozen 5; have r6 := HRS.out.frozen 6; have r7 := HRS.out.frozen 7
          simp only [List.getElem?_toArray, List.getElem?_cons_zero, List.getElem?_cons_succ] at f0 f1 f2 f3 f4 f5 f6 f7 g0 g1 g2 g3 g4 g5 g6 g7
          go_wp2
          (try simp only [Exit.inBlock, Exit.then])
          refine bodyPost_ret (v := .agg #[.int .i64 st2, .int .i64 (blk2 : Int), .int .i64 (pos2 : Int), .int .i64 val2, .slice OA regs2.length oc, .slice OS 0 os, .slice OT tr2.length ot, .int .i64 (steps2 : Int)]) ?_ rfl ⟨OA, oc, OS, os, OT, ot, rfl, (HO.out.v.mods (mods8 W7 (w.heap.size + 1 + 1) _ _ _ _ _ _ _ _) (fun k hk => .inl (by unfold Is at hk; omega))).base (by omega), ?_⟩
          · exact results_cell_row rfl _ _ (w.heap.size + 1 + 1) 46 #[.int .i64 st2, .int .i64 (blk2 : Int), .int .i64 (pos2 : Int), .int .i64 val2, .slice OA regs2.length oc, .slice OS 0 os, .slice OT tr2.length ot, .int .i64 (steps2 : Int)] (0, 0) _ rfl (HRS.out.put8 _ _ _ _ _ _ _ _) Try.underlying46 rfl (by kernel_rfl)
          · exact blw8 (by omega) HB.out _ _ _ _ _ _ _ _
        · have hx0 : (x == 0) = false := by simp [hx]
          have hX := HE3.out
          rw [if_neg hx] at hX
          have HX2 := Lib.hid hX
          clear hX HE3 hx
          have HO : Hid (Ou ((W4.setCell ⟨z, 1, none⟩ (.int .i64 (tn : Int))).setCell ⟨z, 2, none⟩ (.int .i64 0)) (w.heap.size + 1 + 1 + 1) z OA oc OS os OT ot ⟨st2, blk2, pos2, val2, regs2, tr2, steps2⟩) := by
            rw [Hid, HX2.out]
            exact (HO4.out.pBlk tn).pPos 0
          have HRS := Lib.hid ((HRS4.out.far (q := ⟨z, 1, none⟩) (by show _ ≠ z; omega) (.int .i64 (tn : Int))).far (q := ⟨z, 2, none⟩) (by show _ ≠ z; omega) (.int .i64 0))
          have HB := Lib.hid (blwq (blwq HB4.out (q := z) (by omega) 1 (.int .i64 (tn : Int))) (q := z) (by omega) 2 (.int .i64 0))
          clear HX2 HRS4 HB4 HO4
          go_upto_region 15 with fail
          clear k1 k2 k3 k4 s4 f0 f1 f2 f3 q0 q1 q2 q3 HBX4 HBK4 hga4 hx0
          generalize (W4.setCell ⟨z, 1, none⟩ (.int .i64 (tn : Int))).setCell ⟨z, 2, none⟩ (.int .i64 0) = W7 at *
          have f0 := HO.out.row.cell 0; have f1 := HO.out.row.cell 1; have f2 := HO.out.row.cell 2; have f3 := HO.out.row.cell 3; have f4 := HO.out.row.cell 4; have f5 := HO.out.row.cell 5; have f6 := HO.out.row.cell 6; have f7 := HO.out.row.cell 7
          have g0 := HRS.out.cell 0; have g1 := HRS.out.cell 1; have g2 := HRS.out.cell 2; have g3 := HRS.out.cell 3; have g4 := HRS.out.cell 4; have g5 := HRS.out.cell 5; have g6 := HRS.out.cell 6; have g7 := HRS.out.cell 7
          have r0 := HRS.out.frozen 0; have r1 := HRS.out.frozen 1; have r2 := HRS.out.frozen 2; have r3 := HRS.out.frozen 3; have r4 := HRS.out.frozen 4; have r5 := HRS.out.frozen 5; have r6 := HRS.out.frozen 6; have r7 := HRS.out.frozen 7
          simp only [List.getElem?_toArray, List.getElem?_cons_zero, List.getElem?_cons_succ] at f0 f1 f2 f3 f4 f5 f6 f7 g0 g1 g2 g3 g4 g5 g6 g7
          go_wp2
          (try simp only [Exit.inBlock, Exit.then])
          refine bodyPost_ret (v := .agg #[.int .i64 st2, .int .i64 (blk2 : Int), .int .i64 (pos2 : Int), .int .i64 val2, .slice OA regs2.length oc, .slice OS 0 os, .slice OT tr2.length ot, .int .i64 (steps2 : Int)]) ?_ rfl ⟨OA, oc, OS, os, OT, ot, rfl, (HO.out.v.mods (mods8 W7 (w.heap.size + 1 + 1) _ _ _ _ _ _ _ _) (fun k hk => .inl (by unfold Is at hk; omega))).base (by omega), ?_⟩
          · exact results_cell_row rfl _ _ (w.heap.size + 1 + 1) 46 #[.int .i64 st2, .int .i64 (blk2 : Int), .int .i64 (pos2 : Int), .int .i64 val2, .slice OA regs2.length oc, .slice OS 0 os, .slice OT tr2.length ot, .int .i64 (steps2 : Int)] (0, 0) _ rfl (HRS.out.put8 _ _ _ _ _ _ _ _) Try.underlying46 rfl (by kernel_rfl)
          · exact blw8 (by omega) HB.out _ _ _ _ _ _ _ _
      · dsimp only at hk ha0 ha1
        subst hk
        obtain ⟨a, rfl⟩ := Int.eq_ofNat_of_zero_le ha0
        have han : a < regs.length := by omega
        obtain ⟨g, rfl, hga⟩ := regs_at HV.out.regs han
        have hgl := (ownS_lt HV.out.regs g rfl).2
        have hga4 := (HB4.out.cell (p := ⟨g, a, none⟩) hgl).trans hga
        have hgz : ¬ g = z := by omega
        have HE3 : Hid ((⟨st2, blk2, pos2, val2, regs2, tr2, steps2⟩ : Rn) = ⟨1, blk, pos, rg regs (a : Int), regs, tr, steps + 1⟩) := by
          rw [Hid, HE2.out, leav, if_pos rfl]
        clear HE2 ha0 ha1 hga
        dsimp only at hga4
        generalize rg regs (a : Int) = x at *
        have HO : Hid (Ou ((W4.setCell ⟨z, 0, none⟩ (.int .i64 1)).setCell ⟨z, 3, none⟩ (.int .i64 x)) (w.heap.size + 1 + 1 + 1) z OA oc OS os OT ot ⟨st2, blk2, pos2, val2, regs2, tr2, steps2⟩) := by
          rw [Hid, HE3.out]
          exact (HO4.out.pSt 1).pVal x
        have HRS := Lib.hid ((HRS4.out.far (q := ⟨z, 0, none⟩) (by show _ ≠ z; omega) (.int .i64 1)).far (q := ⟨z, 3, none⟩) (by show _ ≠ z; omega) (.int .i64 x))
        have HB := Lib.hid (blwq (blwq HB4.out (q := z) (by omega) 0 (.int .i64 1)) (q := z) (by omega) 3 (.int .i64 x))
        clear HE3 HRS4 HB4 HO4
        go_upto_region 10 with fail
        clear k1 k2 k3 k4 s4 f0 f1 f2 f3 q0 q1 q2 q3 HBX4 HBK4 hga4
        generalize (W4.setCell ⟨z, 0, none⟩ (.int .i64 1)).setCell ⟨z, 3, none⟩ (.int .i64 x) = W7 at *
        have f0 := HO.out.row.cell 0; have f1 := HO.out.row.cell 1; have f2 := HO.out.row.cell 2; have f3 := HO.out.row.cell 3; have f4 := HO.out.row.cell 4; have f5 := HO.out.row.cell 5; have f6 := HO.out.row.cell 6; have f7 := HO.out.row.cell 7
        have g0 := HRS.out.cell 0; have g1 := HRS.out.cell 1; have g2 := HRS.out.cell 2; have g3 := HRS.out.cell 3; have g4 := HRS.out.cell 4; have g5 := HRS.out.cell 5; have g6 := HRS.out.cell 6; have g7 := HRS.out.cell 7
        have r0 := HRS.out.frozen 0; have r1 := HRS.out.frozen 1; have r2 := HRS.out.frozen 2; have r3 := HRS.out.frozen 3; have r4 := HRS.out.frozen 4; have r5 := HRS.out.frozen 5; have r6 := HRS.out.frozen 6; have r7 := HRS.out.frozen 7
        simp only [List.getElem?_toArray, List.getElem?_cons_zero, List.getElem?_cons_succ] at f0 f1 f2 f3 f4 f5 f6 f7 g0 g1 g2 g3 g4 g5 g6 g7
        go_wp2
        (try simp only [Exit.inBlock, Exit.then])
        refine bodyPost_ret (v := .agg #[.int .i64 st2, .int .i64 (blk2 : Int), .int .i64 (pos2 : Int), .int .i64 val2, .slice OA regs2.length oc, .slice OS 0 os, .slice OT tr2.length ot, .int .i64 (steps2 : Int)]) ?_ rfl ⟨OA, oc, OS, os, OT, ot, rfl, (HO.out.v.mods (mods8 W7 (w.heap.size + 1 + 1) _ _ _ _ _ _ _ _) (fun k hk => .inl (by unfold Is at hk; omega))).base (by omega), ?_⟩
        · exact results_cell_row rfl _ _ (w.heap.size + 1 + 1) 46 #[.int .i64 st2, .int .i64 (blk2 : Int), .int .i64 (pos2 : Int), .int .i64 val2, .slice OA regs2.length oc, .slice OS 0 os, .slice OT tr2.length ot, .int .i64 (steps2 : Int)] (0, 0) _ rfl (HRS.out.put8 _ _ _ _ _ _ _ _) Try.underlying46 rfl (by kernel_rfl)
        · exact blw8 (by omega) HB.out _ _ _ _ _ _ _ _
  · have e0 : (st != 0) = true := by simp [h0]
    have hEE : Hid ((⟨st2, blk2, pos2, val2, regs2, tr2, steps2⟩ : Rn) = ⟨st, blk, pos, val, regs, tr, steps⟩) := by rw [Hid, HE.out, stepR_stop (show ¬ (⟨st, blk, pos, val, regs, tr, steps⟩ : Rn).st = 0 from h0)]
    have HO : Hid (Ou W2 (w.heap.size + 1 + 1 + 1) z OA oc OS os OT ot ⟨st2, blk2, pos2, val2, regs2, tr2, steps2⟩) := by rw [Hid, hEE.out]; exact HW.out.ou
    have HRS := Lib.hid HW.out.res
    have HB := Lib.hid HW.out.below
    clear HE hEE HW h0 HS HF HG HV
    go_upto_region 3 with fail
    clear c0 e0
    have f0 := HO.out.row.cell 0; have f1 := HO.out.row.cell 1; have f2 := HO.out.row.cell 2; have f3 := HO.out.row.cell 3; have f4 := HO.out.row.cell 4; have f5 := HO.out.row.cell 5; have f6 := HO.out.row.cell 6; have f7 := HO.out.row.cell 7
    have g0 := HRS.out.cell 0; have g1 := HRS.out.cell 1; have g2 := HRS.out.cell 2; have g3 := HRS.out.cell 3; have g4 := HRS.out.cell 4; have g5 := HRS.out.cell 5; have g6 := HRS.out.cell 6; have g7 := HRS.out.cell 7
    have r0 := HRS.out.frozen 0; have r1 := HRS.out.frozen 1; have r2 := HRS.out.frozen 2; have r3 := HRS.out.frozen 3; have r4 := HRS.out.frozen 4; have r5 := HRS.out.frozen 5; have r6 := HRS.out.frozen 6; have r7 := HRS.out.frozen 7
    simp only [List.getElem?_toArray, List.getElem?_cons_zero, List.getElem?_cons_succ] at f0 f1 f2 f3 f4 f5 f6 f7 g0 g1 g2 g3 g4 g5 g6 g7
    go_wp2
    (try simp only [Exit.inBlock, Exit.then])
    refine bodyPost_ret (v := .agg #[.int .i64 st2, .int .i64 (blk2 : Int), .int .i64 (pos2 : Int), .int .i64 val2, .slice OA regs2.length oc, .slice OS 0 os, .slice OT tr2.length ot, .int .i64 (steps2 : Int)]) ?_ rfl ⟨OA, oc, OS, os, OT, ot, rfl, (HO.out.v.mods (mods8 W2 (w.heap.size + 1 + 1) _ _ _ _ _ _ _ _) (fun k hk => .inl (by unfold Is at hk; omega))).base (by omega), ?_⟩
    · exact results_cell_row rfl _ _ (w.heap.size + 1 + 1) 46 #[.int .i64 st2, .int .i64 (blk2 : Int), .int .i64 (pos2 : Int), .int .i64 val2, .slice OA regs2.length oc, .slice OS 0 os, .slice OT tr2.length ot, .int .i64 (steps2 : Int)] (0, 0) _ rfl (HRS.out.put8 _ _ _ _ _ _ _ _) Try.underlying46 rfl (by kernel_rfl)
    · exact blw8 (by omega) HB.out _ _ _ _ _ _ _ _

end Go.Proofs.Ytncigbpeempnfaa
