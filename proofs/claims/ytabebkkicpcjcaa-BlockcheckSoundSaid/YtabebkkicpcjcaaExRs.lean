/-
  The reference's Step of layer 10 (written by wip/lab/genxrs.py).
-/
import Derived.Test.YtabebkkicpcjcaaExCopy
import Derived.Test.YtabebkkicpcjcaaExLoc
import Derived.Test.YtabebkkicpcjcaaPk1
import Derived.Test.YtabebkkicpcjcaaAluRef
import Derived.Deep.RegionHeld3
import Derived.Deep.DeepMust
import Derived.RegionTactic
import Derived.ChangeAlike
namespace Go.Proofs.Ytabebkkicpcjcaa
open Go.RowKit
set_option linter.unusedVariables false
set_option linter.unusedSimpArgs false

abbrev runT : TypeId := 56
/-- What the reference's Step carries: the boxes, the result, the run that is made. -/
structure RsX (w : World) (args regs0 slots0 : Int) (BA : Option Addr) (bl bc : Nat) (RA : Option Addr) (rc : Nat) (SA : Option Addr) (sc : Nat) (TA : Option Addr) (tc : Nat) (r : Xn) (z : Nat) (OA : Option Addr) (oc : Nat) (OS : Option Addr) (os : Nat) (OT : Option Addr) (ot : Nat) (r' : Xn) (W : World) : Prop where
  below : Below w.heap.size w W
  bf : Row W w.heap.size 54 #[.int .i64 args, .int .i64 regs0, .int .i64 slots0, .slice BA bl bc]
  bx : Row W (w.heap.size + 1) 56 #[.int .i64 r.st, .int .i64 (r.blk : Int), .int .i64 (r.pos : Int), .int .i64 r.val, .slice RA r.regs.length rc, .slice SA r.slots.length sc, .slice TA r.trace.length tc, .int .i64 (r.steps : Int)]
  res : Row W (w.heap.size + 1 + 1) 56 #[.int .i64 0, .int .i64 0, .int .i64 0, .int .i64 0, .slice none 0 0, .slice none 0 0, .slice none 0 0, .int .i64 0]
  ou : Xp W (w.heap.size + 1 + 1 + 1) z runT [] OA oc OS os OT ot r'
section
variable {w : World} {args regs0 slots0 : Int} {BA : Option Addr} {bl bc : Nat} {RA : Option Addr} {rc : Nat} {SA : Option Addr} {sc : Nat} {TA : Option Addr} {tc : Nat} {r : Xn} {z : Nat} {OA OA' : Option Addr} {oc oc' : Nat} {OS OS' : Option Addr} {os os' : Nat} {OT OT' : Option Addr} {ot ot' : Nat} {r' r'' : Xn} {W W' : World}
theorem RsX.next (h : RsX w args regs0 slots0 BA bl bc RA rc SA sc TA tc r z OA oc OS os OT ot r' W) (hb : Below W.heap.size W W') : RsX w args regs0 slots0 BA bl bc RA rc SA sc TA tc r z OA oc OS os OT ot r' W' :=
  ⟨h.below.trans (hb.mono h.below.size), h.bf.below hb h.bf.lt, h.bx.below hb h.bx.lt, h.res.below hb h.res.lt, h.ou.next hb⟩
theorem RsX.drewN (h : RsX w args regs0 slots0 BA bl bc RA rc SA sc TA tc r z OA oc OS os OT ot r' W) (n : Nat) : RsX w args regs0 slots0 BA bl bc RA rc SA sc TA tc r z OA oc OS os OT ot r' (W.drewN n) := h.next (blw_drewN (Below.refl _ _) n)
theorem RsX.drew (h : RsX w args regs0 slots0 BA bl bc RA rc SA sc TA tc r z OA oc OS os OT ot r' W) : RsX w args regs0 slots0 BA bl bc RA rc SA sc TA tc r z OA oc OS os OT ot r' W.drew := h.drewN 1
theorem RsX.upd (h : RsX w args regs0 slots0 BA bl bc RA rc SA sc TA tc r z OA oc OS os OT ot r' W) (hb : Below (w.heap.size + 1 + 1 + 1) W W') (ho : Xp W' (w.heap.size + 1 + 1 + 1) z runT [] OA' oc' OS' os' OT' ot' r'') : RsX w args regs0 slots0 BA bl bc RA rc SA sc TA tc r z OA' oc' OS' os' OT' ot' r'' W' :=
  ⟨h.below.trans (hb.mono (by omega)), h.bf.below hb (by omega), h.bx.below hb (by omega), h.res.below hb (by omega), ho⟩
theorem RsX.start (args regs0 slots0 : Int) (BA : Option Addr) (bl bc : Nat) {W0 : World} (hb : Below w.heap.size w W0) (h0 : Row W0 w.heap.size 54 #[.int .i64 args, .int .i64 regs0, .int .i64 slots0, .slice BA bl bc]) (h1 : Row W0 (w.heap.size + 1) 56 #[.int .i64 r.st, .int .i64 (r.blk : Int), .int .i64 (r.pos : Int), .int .i64 r.val, .slice RA r.regs.length rc, .slice SA r.slots.length sc, .slice TA r.trace.length tc, .int .i64 (r.steps : Int)])
    (h2 : Row W0 (w.heap.size + 1 + 1) 56 #[.int .i64 0, .int .i64 0, .int .i64 0, .int .i64 0, .slice none 0 0, .slice none 0 0, .slice none 0 0, .int .i64 0]) (hv : XV W W0.heap.size OA oc OS os OT ot r) (hb1 : Below W0.heap.size W0 W) :
    RsX w args regs0 slots0 BA bl bc RA rc SA sc TA tc r W.heap.size OA oc OS os OT ot r (W.alloc (.cells #[.int .i64 r.st, .int .i64 (r.blk : Int), .int .i64 (r.pos : Int), .int .i64 r.val, .slice OA r.regs.length oc, .slice OS r.slots.length os, .slice OT r.trace.length ot, .int .i64 (r.steps : Int)] 56)) where
  below := (hb.trans (hb1.mono hb.size)).alloc (by have := hb.size; have := hb1.size; omega) _
  bf := (h0.below hb1 h0.lt).alloc _
  bx := (h1.below hb1 h1.lt).alloc _
  res := (h2.below hb1 h2.lt).alloc _
  ou := ⟨Row.new _ _ _, (hv.base h2.lt).below ((Below.refl _ _).alloc (Nat.le_refl _) _), by have := h2.lt; have := hb1.size; omega, by decide⟩
theorem RsX.emitS {xb g a : Nat} {T' : TypeId} {cs : Array Value} {x : Int} (h : RsX w args regs0 slots0 BA bl bc RA rc SA sc TA tc r z OA oc OS os OT ot r' W) (hx : Row W xb T' cs) (hT : 2 ≠ T') (hc : cs[2]? = some (.int .i64 (a : Int))) (hg : W.cell? ⟨g, a, none⟩ = some (.int .i64 x)) (hgl : g < w.heap.size) :
    (W.cell? ⟨w.heap.size + 1, 4, none⟩ = some (.slice RA r.regs.length rc) ∧ W.cell? ⟨xb, 2, none⟩ = some (.int .i64 (a : Int)) ∧ W.cell? ⟨g, a, none⟩ = some (.int .i64 x)) ∧ ((W.alloc (.cells #[.int .i64 x] 2)).cell? ⟨w.heap.size + 1, 4, none⟩ = some (.slice RA r.regs.length rc) ∧ (W.alloc (.cells #[.int .i64 x] 2)).cell? ⟨xb, 2, none⟩ = some (.int .i64 (a : Int)) ∧ (W.alloc (.cells #[.int .i64 x] 2)).cell? ⟨g, a, none⟩ = some (.int .i64 x)) ∧ ∀ W1, (W.alloc (.cells #[.int .i64 x] 2)).grownBy W1 (Value.slice OT r'.trace.length ot).ownBlock → (W1.cell? ⟨w.heap.size + 1, 4, none⟩ = some (.slice RA r.regs.length rc) ∧ W1.cell? ⟨xb, 2, none⟩ = some (.int .i64 (a : Int)) ∧ W1.cell? ⟨g, a, none⟩ = some (.int .i64 x)) ∧ ∀ u, (W1.setCell ⟨z, 6, none⟩ u).cell? ⟨w.heap.size + 1, 4, none⟩ = some (.slice RA r.regs.length rc) ∧ (W1.setCell ⟨z, 6, none⟩ u).cell? ⟨xb, 2, none⟩ = some (.int .i64 (a : Int)) ∧ (W1.setCell ⟨z, 6, none⟩ u).cell? ⟨g, a, none⟩ = some (.int .i64 x) := by
  have p4 : W.cell? ⟨w.heap.size + 1, 4, none⟩ = some (.slice RA r.regs.length rc) := h.bx.cell 4
  have p2 := (hx.cell 2).trans hc
  have hq := h.bx.lt
  have hh := hx.lt
  have hwl := h.below.size
  have hzl := h.ou.lt
  refine ⟨⟨p4, p2, hg⟩, ⟨(World.cell?_alloc_lt W _ ⟨w.heap.size + 1, 4, none⟩ hq).trans p4, (World.cell?_alloc_lt W _ ⟨xb, 2, none⟩ hh).trans p2, (World.cell?_alloc_lt W _ ⟨g, a, none⟩ (by show g < _; omega)).trans hg⟩, fun W1 hw => ?_⟩
  have hK : ∀ p : Addr, p.block < W.heap.size → (∀ k, (Value.slice OT r'.trace.length ot).ownBlock = some k → ¬ p.block = k) → W1.heap[p.block]? = W.heap[p.block]? := fun p hp hn =>
    (hw.block p.block (by simp; omega) fun e => hn _ e.symm rfl).trans (Below.heap_alloc W _ p.block hp)
  have k4 := (World.cell?_of_block (hK ⟨w.heap.size + 1, 4, none⟩ hq fun k hk e => by have := (ownS_lt h.ou.v.trace k hk).1; have e : w.heap.size + 1 = k := e; omega)).trans p4
  have k2 := (World.cell?_of_block (hK ⟨xb, 2, none⟩ hh fun k hk e => own_row_ne h.ou.v.trace hx hT k hk e.symm)).trans p2
  have kg := (World.cell?_of_block (hK ⟨g, a, none⟩ (by show g < _; omega) fun k hk e => by have := (ownS_lt h.ou.v.trace k hk).1; have e : g = k := e; omega)).trans hg
  refine ⟨⟨k4, k2, kg⟩, fun u => ⟨(World.cell?_setCell_other _ _ _ _ (by simp)).trans k4, ?_, (World.cell?_setCell_other _ _ _ _ (by intro e; injection e with e; omega)).trans kg⟩⟩
  by_cases e : (⟨z, 6, none⟩ : Addr) = ⟨xb, 2, none⟩
  · simp at e
  · exact (World.cell?_setCell_other _ _ _ _ e).trans k2
/-- The same with the instruction's box. -/
structure RxX (w : World) (args regs0 slots0 : Int) (BA : Option Addr) (bl bc : Nat) (RA : Option Addr) (rc : Nat) (SA : Option Addr) (sc : Nat) (TA : Option Addr) (tc : Nat) (r : Xn) (z : Nat) (OA : Option Addr) (oc : Nat) (OS : Option Addr) (os : Nat) (OT : Option Addr) (ot : Nat) (r' : Xn) (xb : Nat) (x : Mi) (W : World) : Prop where
  rs : RsX w args regs0 slots0 BA bl bc RA rc SA sc TA tc r z OA oc OS os OT ot r' W
  ix : Row W xb 70 #[.int .i64 x.op, .int .i64 x.d, .int .i64 x.a, .int .i64 x.b, .int .i64 x.imm, .int .i64 x.dst, .int .i64 x.src]
theorem RxX.next {xb : Nat} {x : Mi} (h : RxX w args regs0 slots0 BA bl bc RA rc SA sc TA tc r z OA oc OS os OT ot r' xb x W) (hb : Below W.heap.size W W') : RxX w args regs0 slots0 BA bl bc RA rc SA sc TA tc r z OA oc OS os OT ot r' xb x W' := ⟨h.rs.next hb, h.ix.below hb h.ix.lt⟩
theorem RxX.drewN {xb : Nat} {x : Mi} (h : RxX w args regs0 slots0 BA bl bc RA rc SA sc TA tc r z OA oc OS os OT ot r' xb x W) (n : Nat) : RxX w args regs0 slots0 BA bl bc RA rc SA sc TA tc r z OA oc OS os OT ot r' xb x (W.drewN n) := h.next (blw_drewN (Below.refl _ _) n)
theorem RxX.drew {xb : Nat} {x : Mi} (h : RxX w args regs0 slots0 BA bl bc RA rc SA sc TA tc r z OA oc OS os OT ot r' xb x W) : RxX w args regs0 slots0 BA bl bc RA rc SA sc TA tc r z OA oc OS os OT ot r' xb x W.drew := h.drewN 1
end

set_option maxRecDepth 100000 in
set_option maxHeartbeats 16000000 in
theorem xrstep_any (bs : List MBlk) (r : Xn) (B lo : Nat) (args regs0 slots0 : Int) (RA SA TA BA : Option Addr) (rc sc tc bc : Nat) (w : World) (hV : XV w lo RA rc SA sc TA tc r) (hs : MBlksAt w B BA bs) (hB : B ≤ w.heap.size) (hF : OkM r.regs.length r.slots.length bs) (hG : GoodX r.regs.length r.slots.length bs r) (hst : r.steps ≤ 1000000) (hrl : r.regs.length ≤ 1000000) (hsl : r.slots.length ≤ 1000000) (hn : mcodeN bs ≤ 1000000) (hm : bs.length ≤ 1000) :
    Calls Try.prog 16 #[.agg #[.int .i64 args, .int .i64 regs0, .int .i64 slots0, .slice BA bs.length bc], .agg #[.int .i64 r.st, .int .i64 (r.blk : Int), .int .i64 (r.pos : Int), .int .i64 r.val, .slice RA r.regs.length rc, .slice SA r.slots.length sc, .slice TA r.trace.length tc, .int .i64 (r.steps : Int)]] w (XP w (stepX bs r)) := by
  have htr : r.trace.length ≤ 1000000 := Nat.le_trans hG.tr hst
  have hb0 := (((Below.refl w.heap.size w).alloc (Nat.le_refl _) (.cells #[.int .i64 args, .int .i64 regs0, .int .i64 slots0, .slice BA bs.length bc] 54)).alloc (by simp) (.cells #[.int .i64 r.st, .int .i64 (r.blk : Int), .int .i64 (r.pos : Int), .int .i64 r.val, .slice RA r.regs.length rc, .slice SA r.slots.length sc, .slice TA r.trace.length tc, .int .i64 (r.steps : Int)] 56)).alloc (by simp; omega) (.cells #[.int .i64 0, .int .i64 0, .int .i64 0, .int .i64 0, .slice none 0 0, .slice none 0 0, .slice none 0 0, .int .i64 0] 56)
  have hbf := ((Row.new w 54 #[.int .i64 args, .int .i64 regs0, .int .i64 slots0, .slice BA bs.length bc]).alloc (.cells #[.int .i64 r.st, .int .i64 (r.blk : Int), .int .i64 (r.pos : Int), .int .i64 r.val, .slice RA r.regs.length rc, .slice SA r.slots.length sc, .slice TA r.trace.length tc, .int .i64 (r.steps : Int)] 56)).alloc (.cells #[.int .i64 0, .int .i64 0, .int .i64 0, .int .i64 0, .slice none 0 0, .slice none 0 0, .slice none 0 0, .int .i64 0] 56)
  have hbx := (Row.new' (W := w.alloc (.cells #[.int .i64 args, .int .i64 regs0, .int .i64 slots0, .slice BA bs.length bc] 54)) (p := w.heap.size + 1) (by simp) 56 #[.int .i64 r.st, .int .i64 (r.blk : Int), .int .i64 (r.pos : Int), .int .i64 r.val, .slice RA r.regs.length rc, .slice SA r.slots.length sc, .slice TA r.trace.length tc, .int .i64 (r.steps : Int)]).alloc (.cells #[.int .i64 0, .int .i64 0, .int .i64 0, .int .i64 0, .slice none 0 0, .slice none 0 0, .slice none 0 0, .int .i64 0] 56)
  have hrs := Row.new' (W := (w.alloc (.cells #[.int .i64 args, .int .i64 regs0, .int .i64 slots0, .slice BA bs.length bc] 54)).alloc (.cells #[.int .i64 r.st, .int .i64 (r.blk : Int), .int .i64 (r.pos : Int), .int .i64 r.val, .slice RA r.regs.length rc, .slice SA r.slots.length sc, .slice TA r.trace.length tc, .int .i64 (r.steps : Int)] 56)) (p := w.heap.size + 1 + 1) (by simp) 56 #[.int .i64 0, .int .i64 0, .int .i64 0, .int .i64 0, .slice none 0 0, .slice none 0 0, .slice none 0 0, .int .i64 0]
  have C1 := Lib.hid (xcopy_any r w.heap.size RA SA TA rc sc tc _ (hV.srs.below hb0) (hV.sss.below hb0) (hV.sts.below hb0) hb0.size hrl hsl htr)
  have HST := Lib.hid fun (W0 W1 : World) OA oc OS os OT ot h0 h1 h2 h3 h4 h5 => RsX.start (w := w) (W := W1) (W0 := W0) (RA := RA) (rc := rc) (SA := SA) (sc := sc) (TA := TA) (tc := tc) (r := r) (OA := OA) (oc := oc) (OS := OS) (os := os) (OT := OT) (ot := ot) args regs0 slots0 BA bs.length bc h0 h1 h2 h3 h4 h5
  have HB0 := Lib.hid hb0
  have HBF := Lib.hid hbf
  have HBX := Lib.hid hbx
  have HRS0 := Lib.hid hrs
  have HV := Lib.hid hV
  have HS := Lib.hid (hs.more hB)
  have HF := Lib.hid hF
  have HG := Lib.hid hG
  have hR2 : ∃ r2, r2 = stepX bs r := ⟨_, rfl⟩
  obtain ⟨r2, hr2⟩ := hR2
  have HE := Lib.hid hr2
  rw [← hr2]
  clear hb0 hbf hbx hrs hV hs hF hG hr2
  obtain ⟨st, blk, pos, val, regs, sl, tr, steps⟩ := r
  obtain ⟨st2, blk2, pos2, val2, regs2, sl2, tr2, steps2⟩ := r2
  dsimp only at *
  generalize hL : bs.length = nb at *
  have HL := Lib.hid hL
  clear hL
  go_enter Try.func16, Try.ntmps16
  go_wp2_with fail
  refine C1.out.mono ?_
  generalize (((w.alloc (.cells #[.int .i64 args, .int .i64 regs0, .int .i64 slots0, .slice BA nb bc] 54)).alloc (.cells #[.int .i64 st, .int .i64 (blk : Int), .int .i64 (pos : Int), .int .i64 val, .slice RA regs.length rc, .slice SA sl.length sc, .slice TA tr.length tc, .int .i64 (steps : Int)] 56)).alloc (.cells #[.int .i64 0, .int .i64 0, .int .i64 0, .int .i64 0, .slice none 0 0, .slice none 0 0, .slice none 0 0, .int .i64 0] 56)) = W0 at *
  rintro e W1 ⟨OA, oc, OS, os, OT, ot, rfl, hv, hb⟩
  have HW := Lib.hid (HST.out W0 W1 OA oc OS os OT ot HB0.out HBF.out HBX.out HRS0.out hv hb)
  have c0 := (HBX.out.below hb HBX.out.lt).cell 0
  simp only [List.getElem?_toArray, List.getElem?_cons_zero] at c0
  have hzx : w.heap.size + 1 < W1.heap.size := (HBX.out.below hb HBX.out.lt).lt
  clear HST hv hb HB0 HBF HBX HRS0 C1
  go_upto_region 2 with fail
  clear c0
  generalize W1.alloc (.cells #[.int .i64 st, .int .i64 (blk : Int), .int .i64 (pos : Int), .int .i64 val, .slice OA regs.length oc, .slice OS sl.length os, .slice OT tr.length ot, .int .i64 (steps : Int)] 56) = W2 at *
  generalize W1.heap.size = z at *
  have hz1 : w.heap.size + 1 + 1 + 1 ≤ z := HW.out.ou.lt
  have hz2 : z < W2.heap.size := HW.out.ou.row.lt
  have c0 := HW.out.bx.cell 0
  simp only [List.getElem?_toArray, List.getElem?_cons_zero] at c0
  have hh2 : w.heap.size + 1 < W2.heap.size := HW.out.bx.lt
  by_cases h0 : st = 0
  · subst h0
    have hgb := HG.out.blk
    have hpl := HG.out.pos
    dsimp only at hgb hpl
    have hat0 := ((HS.out.below HW.out.below).at_ hgb)
    have hxy : mblkAt bs blk = bs[blk] := mblkAt_lt hgb
    have hins := HF.out.ins _ (List.getElem_mem hgb)
    have htm := HF.out.tm _ (List.getElem_mem hgb)
    have hcl := mcodeN_mem bs blk hgb
    rw [HL.out] at htm
    rw [hxy] at hpl
    have HEE : Hid ((⟨st2, blk2, pos2, val2, regs2, sl2, tr2, steps2⟩ : Xn) = if h : pos < bs[blk].code.length then xperf bs[blk].code[pos] (⟨0, blk, pos, val, regs, sl, tr, steps⟩ : Xn) else xleav bs[blk].term (⟨0, blk, pos, val, regs, sl, tr, steps⟩ : Xn)) := by
      rw [Hid, HE.out, stepX, if_pos rfl]
      simp only [hxy]
    clear HE hxy
    obtain ⟨b, o, rfl, hb, hat⟩ := hat0
    have hbn : (blk : Int) < nb := by have := HL.out; omega
    generalize bs[blk] = y at *
    obtain ⟨A1, c1, hc0, hl1, hl2, hin⟩ := hat.code
    have t0 := hat.t0; have t1 := hat.t1; have t2 := hat.t2; have t3 := hat.t3
    have d3 := HW.out.bf.cell 3; have c1' := HW.out.bx.cell 1; have c2' := HW.out.bx.cell 2
    simp only [List.getElem?_toArray, List.getElem?_cons_zero, List.getElem?_cons_succ] at d3 c1' c2'
    have hlz : w.heap.size < W2.heap.size := HW.out.bf.lt
    have hlb : b < W2.heap.size := by omega
    have HW3 := Lib.hid (HW.out.next ((Below.refl W2.heap.size W2).alloc (Nat.le_refl _) (.cells #[.slice A1 y.code.length c1, .int .i64 y.term.kind, .int .i64 y.term.a, .int .i64 y.term.to, .int .i64 y.term.el] 29)))
    have HBK := Lib.hid (Row.new W2 29 #[.slice A1 y.code.length c1, .int .i64 y.term.kind, .int .i64 y.term.a, .int .i64 y.term.to, .int .i64 y.term.el])
    have HIN := Lib.hid (hin.keep (w' := W2.alloc (.cells #[.slice A1 y.code.length c1, .int .i64 y.term.kind, .int .i64 y.term.a, .int .i64 y.term.to, .int .i64 y.term.el] 29)) fun p hp => World.cell?_alloc_lt W2 _ p (by omega))
    clear hin hat
    go_upto_region 5 with fail
    clear t0 t1 t2 t3 d3 c1' c2' hc0 HW c0
    generalize W2.alloc (.cells #[.slice A1 y.code.length c1, .int .i64 y.term.kind, .int .i64 y.term.a, .int .i64 y.term.to, .int .i64 y.term.el] 29) = W3 at *
    generalize W2.heap.size = yb at *
    have p2 := HW3.out.bx.cell 2; have k0 := HBK.out.cell 0
    simp only [List.getElem?_toArray, List.getElem?_cons_zero, List.getElem?_cons_succ] at p2 k0
    have hyb : yb < W3.heap.size := HBK.out.lt
    have hz3 : z < W3.heap.size := HW3.out.ou.row.lt
    have hh3 : w.heap.size + 1 < W3.heap.size := HW3.out.bx.lt
    by_cases hlt : pos < y.code.length
    · have e5 : ((pos : Int) == (y.code.length : Int)) = false := by simp; omega
      have HE2 : Hid ((⟨st2, blk2, pos2, val2, regs2, sl2, tr2, steps2⟩ : Xn) = xperf y.code[pos] (⟨0, blk, pos, val, regs, sl, tr, steps⟩ : Xn)) := by rw [Hid, HEE.out, dif_pos hlt]
      have hio := hins _ (List.getElem_mem hlt)
      obtain ⟨b1, o1, rfl, hb1, hi⟩ := HIN.out.at_ hlt
      have i0 := hi.c0; have i1 := hi.c1; have i2 := hi.c2; have i3 := hi.c3; have i4 := hi.c4; have i5 := hi.c5; have i6 := hi.c6
      have hlt2 : (pos : Int) < y.code.length := by omega
      have hlb1 : b1 < W3.heap.size := by omega
      clear hi HIN HEE hins htm
      generalize y.code[pos] = x at *
      have HW4 := Lib.hid (HW3.out.next ((Below.refl W3.heap.size W3).alloc (Nat.le_refl _) (.cells #[.int .i64 x.op, .int .i64 x.d, .int .i64 x.a, .int .i64 x.b, .int .i64 x.imm, .int .i64 x.dst, .int .i64 x.src] 70)))
      have HIR := Lib.hid (Row.new W3 70 #[.int .i64 x.op, .int .i64 x.d, .int .i64 x.a, .int .i64 x.b, .int .i64 x.imm, .int .i64 x.dst, .int .i64 x.src])
      have hxz : W3.heap.size ≠ z := by omega
      go_upto_region 17 with fail
      clear i0 i1 i2 i3 i4 i5 i6 p2 k0 e5 HW3 HBK
      generalize W3.alloc (.cells #[.int .i64 x.op, .int .i64 x.d, .int .i64 x.a, .int .i64 x.b, .int .i64 x.imm, .int .i64 x.dst, .int .i64 x.src] 70) = W4 at *
      generalize W3.heap.size = xb at *
      have hxb : xb < W4.heap.size := HIR.out.lt
      have hz4 : z < W4.heap.size := HW4.out.ou.row.lt
      have s0 := HIR.out.cell 0
      simp only [List.getElem?_toArray, List.getElem?_cons_zero, List.getElem?_cons_succ] at s0
      rcases hio with ⟨h18, hd, hs⟩ | ⟨h17, ha0, ha1⟩ | ⟨h18, h17, _, ha0, ha1, hd0, hd1, hb0, hb1'⟩
      · have HE3 : Hid ((⟨st2, blk2, pos2, val2, regs2, sl2, tr2, steps2⟩ : Xn) = { putX (⟨0, blk, pos, val, regs, sl, tr, steps⟩ : Xn) x.dst (rdX (⟨0, blk, pos, val, regs, sl, tr, steps⟩ : Xn) x.src) with pos := pos + 1, steps := steps + 1 }) := by rw [Hid, HE2.out, xperf, if_pos h18]
        obtain ⟨op, d, ia, ib, imm, dst, src⟩ := x
        dsimp only at *
        subst h18
        have s5 := HIR.out.cell 5; have s6 := HIR.out.cell 6
        have b0 := HW4.out.bx.cell 0; have b1 := HW4.out.bx.cell 1; have b2 := HW4.out.bx.cell 2; have b3 := HW4.out.bx.cell 3; have b4 := HW4.out.bx.cell 4; have b5 := HW4.out.bx.cell 5; have b6 := HW4.out.bx.cell 6; have b7 := HW4.out.bx.cell 7
        simp only [List.getElem?_toArray, List.getElem?_cons_zero, List.getElem?_cons_succ] at s5 s6 b0 b1 b2 b3 b4 b5 b6 b7
        have C2 := Lib.hid (rread_any ⟨0, blk, pos, val, regs, sl, tr, steps⟩ src lo RA SA TA rc sc tc W4 (HV.out.below HW4.out.below) hs hrl hsl)
        clear HE2 hs
        generalize rdX ⟨0, blk, pos, val, regs, sl, tr, steps⟩ src = v at *
        dsimp only at C2
        go_wp2_with fail
        refine C2.out.mono ?_
        rintro e W5 ⟨rfl, hb5⟩
        have HW5 := Lib.hid (HW4.out.next hb5)
        have HIR5 := Lib.hid (HIR.out.below hb5 HIR.out.lt)
        clear hb5 HW4 HIR C2 s0 s5 s6 b0 b1 b2 b3 b4 b5 b6 b7
        have s5 := HIR5.out.cell 5
        obtain ⟨_, _, _, _, f4, f5, _, _⟩ := HW5.out.ou.cells
        simp only [List.getElem?_toArray, List.getElem?_cons_zero, List.getElem?_cons_succ] at s5
        dsimp only at f4 f5
        have hxb5 : xb < W5.heap.size := HIR5.out.lt
        have hz5 : z < W5.heap.size := HW5.out.ou.row.lt
        obtain ⟨h0, ⟨h1, h2⟩ | ⟨h1, h2⟩⟩ := hd
        · obtain ⟨k, hk⟩ := Int.eq_ofNat_of_zero_le (show 0 ≤ dst / 2 by omega)
          have hkn : k < sl.length := by omega
          obtain ⟨gq, rfl, hrc⟩ := regs_at HW5.out.ou.v.slots hkn
          have hrf := own_frozen HW5.out.ou.v.slots (g := gq) (k := k) rfl
          have hgqz : ¬ gq = z := HW5.out.ou.ns gq rfl
          obtain ⟨hI6, hb6⟩ := HW5.out.ou.setslot (v := v) hkn
          have HI6 := Lib.hid (HW5.out.upd hb6 hI6)
          have hX := HE3.out
          rw [putX, if_pos h1, hk, Int.toNat_natCast] at hX
          dsimp only at hX
          have HE3 := Lib.hid hX
          have e1 : dst.tmod 2 = 1 := by rw [Int.tmod_eq_emod_of_nonneg h0]; omega
          have e2 : dst.tdiv 2 = k := by rw [Int.tdiv_eq_ediv_of_nonneg h0]; omega
          have hk2 : (k : Int) < sl.length := by omega
          have hk3 : (k : Int) ≤ 1000000 := by omega
          clear hI6 hb6 hX h0 h1 h2 hk HW5 HIR5
          go_upto_region 29 with fail
          clear s5 f4 f5 hrc hrf e1 e2 hk2
          generalize W5.setCell ⟨gq, k, none⟩ (.int .i64 v) = W6 at *
          obtain ⟨_, _, f2, _, _, _, _, f7⟩ := HI6.out.ou.cells
          have q2 := HI6.out.ou.row.frozen 2; have q7 := HI6.out.ou.row.frozen 7
          dsimp only at f2 f7
          have HO : Hid (RsX w args regs0 slots0 (some ⟨b, o, none⟩) nb bc RA rc SA sc TA tc ⟨0, blk, pos, val, regs, sl, tr, steps⟩ z OA oc (some ⟨gq, 0, none⟩) os OT ot (⟨st2, blk2, pos2, val2, regs2, sl2, tr2, steps2⟩ : Xn) ((W6.setCell ⟨z, 2, none⟩ (.int .i64 ((pos : Int) + 1))).setCell ⟨z, 7, none⟩ (.int .i64 ((steps : Int) + 1)))) := by
            rw [Hid, HE3.out]
            exact HI6.out.upd (blwq (blwq (Below.refl _ _) HI6.out.ou.lt 2 _) HI6.out.ou.lt 7 _) ((HI6.out.ou.pPos (pos + 1)).pSteps (steps + 1))
          clear HI6 HE3
          go_upto_region 31 with fail
          clear f2 f7 q2 q7
          generalize (W6.setCell ⟨z, 2, none⟩ (.int .i64 ((pos : Int) + 1))).setCell ⟨z, 7, none⟩ (.int .i64 ((steps : Int) + 1)) = W7 at *
          have hz9 : z < W7.heap.size := HO.out.ou.row.lt
          obtain ⟨f0, f1, f2, f3, f4, f5, f6, f7⟩ := HO.out.ou.cells
          dsimp only at f0 f1 f2 f3 f4 f5 f6 f7
          have g0 := HO.out.res.cell 0; have g1 := HO.out.res.cell 1; have g2 := HO.out.res.cell 2; have g3 := HO.out.res.cell 3; have g4 := HO.out.res.cell 4; have g5 := HO.out.res.cell 5; have g6 := HO.out.res.cell 6; have g7 := HO.out.res.cell 7
          have r0 := HO.out.res.frozen 0; have r1 := HO.out.res.frozen 1; have r2 := HO.out.res.frozen 2; have r3 := HO.out.res.frozen 3; have r4 := HO.out.res.frozen 4; have r5 := HO.out.res.frozen 5; have r6 := HO.out.res.frozen 6; have r7 := HO.out.res.frozen 7
          simp only [List.getElem?_toArray, List.getElem?_cons_zero, List.getElem?_cons_succ] at g0 g1 g2 g3 g4 g5 g6 g7
          go_wp2
          (try simp only [Exit.inBlock, Exit.then])
          refine bodyPost_ret (v := .agg #[.int .i64 st2, .int .i64 (blk2 : Int), .int .i64 (pos2 : Int), .int .i64 val2, .slice OA regs2.length oc, .slice (some ⟨gq, 0, none⟩) sl2.length os, .slice OT tr2.length ot, .int .i64 (steps2 : Int)]) ?_ rfl ⟨OA, oc, (some ⟨gq, 0, none⟩), os, OT, ot, rfl, (HO.out.ou.v.mods (mods8 W7 (w.heap.size + 1 + 1) _ _ _ _ _ _ _ _) (fun k hk => .inl (by unfold Is at hk; omega))).base (by omega), ?_⟩
          · exact results_cell_row rfl _ _ (w.heap.size + 1 + 1) 56 #[.int .i64 st2, .int .i64 (blk2 : Int), .int .i64 (pos2 : Int), .int .i64 val2, .slice OA regs2.length oc, .slice (some ⟨gq, 0, none⟩) sl2.length os, .slice OT tr2.length ot, .int .i64 (steps2 : Int)] (0, 0) _ rfl (HO.out.res.put8 _ _ _ _ _ _ _ _) Try.underlying56 rfl (by kernel_rfl)
          · exact blw8 (by omega) HO.out.below _ _ _ _ _ _ _ _
        · obtain ⟨k, hk⟩ := Int.eq_ofNat_of_zero_le (show 0 ≤ dst / 2 by omega)
          have hkn : k < regs.length := by omega
          obtain ⟨gq, rfl, hrc⟩ := regs_at HW5.out.ou.v.regs hkn
          have hrf := own_frozen HW5.out.ou.v.regs (g := gq) (k := k) rfl
          have hgqz : ¬ gq = z := HW5.out.ou.nr gq rfl
          obtain ⟨hI6, hb6⟩ := HW5.out.ou.setreg (v := v) hkn
          have HI6 := Lib.hid (HW5.out.upd hb6 hI6)
          have hX := HE3.out
          rw [putX, if_neg (by omega), hk, Int.toNat_natCast] at hX
          dsimp only at hX
          have HE3 := Lib.hid hX
          have e1 : dst.tmod 2 = 0 := by rw [Int.tmod_eq_emod_of_nonneg h0]; omega
          have e2 : dst.tdiv 2 = k := by rw [Int.tdiv_eq_ediv_of_nonneg h0]; omega
          have hk2 : (k : Int) < regs.length := by omega
          have hk3 : (k : Int) ≤ 1000000 := by omega
          clear hI6 hb6 hX h0 h1 h2 hk HW5 HIR5
          go_upto_region 29 with fail
          clear s5 f4 f5 hrc hrf e1 e2 hk2
          generalize W5.setCell ⟨gq, k, none⟩ (.int .i64 v) = W6 at *
          obtain ⟨_, _, f2, _, _, _, _, f7⟩ := HI6.out.ou.cells
          have q2 := HI6.out.ou.row.frozen 2; have q7 := HI6.out.ou.row.frozen 7
          dsimp only at f2 f7
          have HO : Hid (RsX w args regs0 slots0 (some ⟨b, o, none⟩) nb bc RA rc SA sc TA tc ⟨0, blk, pos, val, regs, sl, tr, steps⟩ z (some ⟨gq, 0, none⟩) oc OS os OT ot (⟨st2, blk2, pos2, val2, regs2, sl2, tr2, steps2⟩ : Xn) ((W6.setCell ⟨z, 2, none⟩ (.int .i64 ((pos : Int) + 1))).setCell ⟨z, 7, none⟩ (.int .i64 ((steps : Int) + 1)))) := by
            rw [Hid, HE3.out]
            exact HI6.out.upd (blwq (blwq (Below.refl _ _) HI6.out.ou.lt 2 _) HI6.out.ou.lt 7 _) ((HI6.out.ou.pPos (pos + 1)).pSteps (steps + 1))
          clear HI6 HE3
          go_upto_region 31 with fail
          clear f2 f7 q2 q7
          generalize (W6.setCell ⟨z, 2, none⟩ (.int .i64 ((pos : Int) + 1))).setCell ⟨z, 7, none⟩ (.int .i64 ((steps : Int) + 1)) = W7 at *
          have hz9 : z < W7.heap.size := HO.out.ou.row.lt
          obtain ⟨f0, f1, f2, f3, f4, f5, f6, f7⟩ := HO.out.ou.cells
          dsimp only at f0 f1 f2 f3 f4 f5 f6 f7
          have g0 := HO.out.res.cell 0; have g1 := HO.out.res.cell 1; have g2 := HO.out.res.cell 2; have g3 := HO.out.res.cell 3; have g4 := HO.out.res.cell 4; have g5 := HO.out.res.cell 5; have g6 := HO.out.res.cell 6; have g7 := HO.out.res.cell 7
          have r0 := HO.out.res.frozen 0; have r1 := HO.out.res.frozen 1; have r2 := HO.out.res.frozen 2; have r3 := HO.out.res.frozen 3; have r4 := HO.out.res.frozen 4; have r5 := HO.out.res.frozen 5; have r6 := HO.out.res.frozen 6; have r7 := HO.out.res.frozen 7
          simp only [List.getElem?_toArray, List.getElem?_cons_zero, List.getElem?_cons_succ] at g0 g1 g2 g3 g4 g5 g6 g7
          go_wp2
          (try simp only [Exit.inBlock, Exit.then])
          refine bodyPost_ret (v := .agg #[.int .i64 st2, .int .i64 (blk2 : Int), .int .i64 (pos2 : Int), .int .i64 val2, .slice (some ⟨gq, 0, none⟩) regs2.length oc, .slice OS sl2.length os, .slice OT tr2.length ot, .int .i64 (steps2 : Int)]) ?_ rfl ⟨(some ⟨gq, 0, none⟩), oc, OS, os, OT, ot, rfl, (HO.out.ou.v.mods (mods8 W7 (w.heap.size + 1 + 1) _ _ _ _ _ _ _ _) (fun k hk => .inl (by unfold Is at hk; omega))).base (by omega), ?_⟩
          · exact results_cell_row rfl _ _ (w.heap.size + 1 + 1) 56 #[.int .i64 st2, .int .i64 (blk2 : Int), .int .i64 (pos2 : Int), .int .i64 val2, .slice (some ⟨gq, 0, none⟩) regs2.length oc, .slice OS sl2.length os, .slice OT tr2.length ot, .int .i64 (steps2 : Int)] (0, 0) _ rfl (HO.out.res.put8 _ _ _ _ _ _ _ _) Try.underlying56 rfl (by kernel_rfl)
          · exact blw8 (by omega) HO.out.below _ _ _ _ _ _ _ _
      · have HE3S : Hid ((⟨st2, blk2, pos2, val2, regs2, sl2, tr2, steps2⟩ : Xn) = { (⟨0, blk, pos, val, regs, sl, tr, steps⟩ : Xn) with trace := tr ++ [rg regs x.a], pos := pos + 1, steps := steps + 1 }) := by rw [Hid, HE2.out, xperf, if_neg (by omega), if_pos h17]
        obtain ⟨op, d, ia, ib, imm, dst, src⟩ := x
        dsimp only at *
        subst h17
        obtain ⟨a, rfl⟩ := Int.eq_ofNat_of_zero_le ha0
        have han : a < regs.length := by omega
        obtain ⟨g, rfl, hga⟩ := regs_at HV.out.regs han
        have hgl := (ownS_lt HV.out.regs g rfl).2
        have hga4 := (HW4.out.below.cell (p := ⟨g, a, none⟩) hgl).trans hga
        obtain ⟨i0, hi, hz0, hz1', hz2'⟩ := info_parts infoI64
        have hz1 := hz1'; have hz2 := hz2'
        obtain ⟨_, _, _, _, _, _, f6', _⟩ := HW4.out.ou.cells
        dsimp only at f6'
        clear HE2 hga
        generalize hX : rg regs (a : Int) = x at *
        have HE3 := Lib.hid (HW4.out.emitS HIR.out (by decide) (by kernel_rfl) hga4 hgl)
        have HAP := Lib.hid fun (W1 : World) (A1 : Option Addr) (c1 : Nat) hg ho ha => HW4.out.ou.app x (.cells #[.int .i64 x] 2) (W := W1) (A1 := A1) (c1 := c1) hg ho ha
        have HSX := Lib.hid (sees_new W4 #[.int .i64 x] 2)
        have HOA := Lib.hid (((Mods.refl No W4).alloc (.cells #[.int .i64 x] 2)).ownS HW4.out.ou.v.trace fun _ _ h => h)
        have hlo1 : w.heap.size + 1 + 1 + 1 ≤ (W4.alloc (.cells #[.int .i64 x] 2)).heap.size := by simp; omega
        clear hX
        go_upto_region 23 with fail
        refine wp_region_held_drew (S := (fun w' => w'.cell? ⟨w.heap.size + 1, 4, none⟩ = some (.slice (some ⟨g, 0, none⟩) regs.length rc) ∧ w'.cell? ⟨xb, 2, none⟩ = some (.int .i64 (a : Int)) ∧ w'.cell? ⟨g, a, none⟩ = some (.int .i64 x))) (by kernel_rfl) HE3.out.1 (fun hHeld => ?_)
        refine take_at 0 105 (.pointer (some ⟨z, 6, none⟩)) rfl rfl (by kernel_rfl) (by kernel_rfl) (by kernel_rfl) (fun _ _ _ h => h) (Or.inl ⟨by rfl, ?_⟩) hHeld ?_
        · intro w9 hSw
          (try dsimp only at hSw)
          go_simp
        (try simp only [Act.put, List.setIfInBounds_toArray, List.set_cons_zero, List.set_cons_succ])
        refine take_at 2 107 (.pointer (some ⟨w.heap.size + 1, 4, none⟩)) rfl rfl (by kernel_rfl) (by kernel_rfl) (by kernel_rfl) (fun _ _ _ h => h) (Or.inl ⟨by rfl, ?_⟩) hHeld ?_
        · intro w9 hSw
          (try dsimp only at hSw)
          go_simp
        (try simp only [Act.put, List.setIfInBounds_toArray, List.set_cons_zero, List.set_cons_succ])
        refine take_at 3 108 (.slice (some ⟨g, 0, none⟩) regs.length rc) rfl rfl (by kernel_rfl) (by kernel_rfl) (by kernel_rfl) (fun _ _ _ h => h) (Or.inl ⟨by rfl, ?_⟩) hHeld ?_
        · intro w9 hSw
          (try dsimp only at hSw)
          go_simp
        (try simp only [Act.put, List.setIfInBounds_toArray, List.set_cons_zero, List.set_cons_succ])
        refine take_at 4 109 (.pointer (some ⟨xb, 2, none⟩)) rfl rfl (by kernel_rfl) (by kernel_rfl) (by kernel_rfl) (fun _ _ _ h => h) (Or.inl ⟨by rfl, ?_⟩) hHeld ?_
        · intro w9 hSw
          (try dsimp only at hSw)
          go_simp
        (try simp only [Act.put, List.setIfInBounds_toArray, List.set_cons_zero, List.set_cons_succ])
        refine take_at 5 110 (.int .i64 a) rfl rfl (by kernel_rfl) (by kernel_rfl) (by kernel_rfl) (fun _ _ _ h => h) (Or.inl ⟨by rfl, ?_⟩) hHeld ?_
        · intro w9 hSw
          (try dsimp only at hSw)
          go_simp
        (try simp only [Act.put, List.setIfInBounds_toArray, List.set_cons_zero, List.set_cons_succ])
        refine take_at 6 111 (.pointer (some ⟨g, a, none⟩)) rfl rfl (by kernel_rfl) (by kernel_rfl) (by kernel_rfl) (fun _ _ _ h => h) (Or.inl ⟨by rfl, ?_⟩) hHeld ?_
        · intro w9 hSw
          (try dsimp only at hSw)
          go_simp
        (try simp only [Act.put, List.setIfInBounds_toArray, List.set_cons_zero, List.set_cons_succ])
        refine take_at 7 112 (.int .i64 x) rfl rfl (by kernel_rfl) (by kernel_rfl) (by kernel_rfl) (fun _ _ _ h => h) (Or.inl ⟨by rfl, ?_⟩) hHeld ?_
        · intro w9 hSw
          (try dsimp only at hSw)
          go_simp
        (try simp only [Act.put, List.setIfInBounds_toArray, List.set_cons_zero, List.set_cons_succ])
        refine wpAnyH_ready (rs := [1, 8]) (by kernel_rfl) (by simp) ?_
        refine AllReadyH.cons rfl (fun K hK => ?_) ?_
        · go_simp
          refine hK.out _ _ HE3.out.1 (fun hHeld => ?_)
          clear hK K
          refine wpAnyH_ready (rs := [8]) (by kernel_rfl) (by simp) ?_
          refine AllReadyH.cons rfl (fun K hK => ?_) ?_
          · go_simp
            refine hK.out _ _ HE3.out.2.1 (fun hHeld => ?_)
            clear hK K
            refine wpAnyH_ready (rs := [9]) (by kernel_rfl) (by simp) ?_
            refine AllReadyH.cons rfl (fun K hK => ?_) ?_
            · refine step_append_any _ rfl (.tmp 106) (.tmp 113) 44 rfl (w.heap.size + 1 + 1 + 1) 2 i0 _ 1 8 Try.underlying44 hi hz0 hz1 hz2 rfl (by decide) (.slice OT tr.length ot) tr.length (ints tr) rfl HOA.out (W4.heap.size + 1) (some ⟨W4.heap.size, 0, none⟩) 1 1 (ints [x]) rfl HSX.out rfl (ints_one _) (by unfold maxLen; omega) (by omega) hlo1 ?_
              intro v5 W5 ho5 hg5 ha5
              obtain ⟨A5, c5, rfl, _, _⟩ := ownS_slice ho5
              have hgg : World.grownBy (W4.alloc (.cells #[.int .i64 x] 2)) W5 (Value.slice OT tr.length ot).ownBlock := ⟨hg5.os, hg5.tape, hg5.output, hg5.size, hg5.block⟩
              obtain ⟨hrow, hI2, hbl2⟩ := HAP.out W5 A5 c5 hgg (by rw [ints_append]; exact ho5) ha5
              have f6 : W5.cell? ⟨z, 6, none⟩ = some (.slice OT tr.length ot) := by rw [hrow.cell]; rfl
              have r6 := hrow.frozen 6
              have HI2 := Lib.hid (And.intro hI2 hbl2)
              have HKW := Lib.hid (HE3.out.2.2 W5 hgg)
              clear ho5 hg5 ha5 hgg hrow hI2 hbl2
              refine hK.out _ _ HKW.out.1 (fun hHeld => ?_)
              clear hK K
              refine take_at 10 115 (.pointer (some ⟨z, 6, none⟩)) rfl rfl (by kernel_rfl) (by kernel_rfl) (by kernel_rfl) (fun _ _ _ h => h) (Or.inl ⟨by rfl, ?_⟩) hHeld ?_
              · intro w9 hSw
                (try dsimp only at hSw)
                go_simp
              (try simp only [Act.put, List.setIfInBounds_toArray, List.set_cons_zero, List.set_cons_succ])
              refine wpAnyH_ready (rs := [11]) (by kernel_rfl) (by simp) ?_
              refine AllReadyH.cons rfl (fun K hK => ?_) ?_
              · go_simp
                refine hK.out _ _ (HKW.out.2 _) (fun hHeld => ?_)
                clear hK K
                refine wpAnyH_done (by kernel_rfl) ?_ _
                clear hHeld
                clear HOA HSX HAP HKW HE3 f6 r6
                have HE3 := HE3S
                clear HE3S
                have HI6 := Lib.hid (HW4.out.upd HI2.out.2 HI2.out.1)
                clear HI2 HW4
                generalize W5.setCell ⟨z, 6, none⟩ (.slice A5 (tr.length + 1) c5) = W6 at *
                obtain ⟨_, _, f2, _, _, _, _, f7⟩ := HI6.out.ou.cells
                have q2 := HI6.out.ou.row.frozen 2; have q7 := HI6.out.ou.row.frozen 7
                dsimp only at f2 f7
                have HO : Hid (RsX w args regs0 slots0 (some ⟨b, o, none⟩) nb bc (some ⟨g, 0, none⟩) rc SA sc TA tc ⟨0, blk, pos, val, regs, sl, tr, steps⟩ z OA oc OS os A5 c5 (⟨st2, blk2, pos2, val2, regs2, sl2, tr2, steps2⟩ : Xn) ((W6.setCell ⟨z, 2, none⟩ (.int .i64 ((pos : Int) + 1))).setCell ⟨z, 7, none⟩ (.int .i64 ((steps : Int) + 1)))) := by
                  rw [Hid, HE3.out]
                  exact HI6.out.upd (blwq (blwq (Below.refl _ _) HI6.out.ou.lt 2 _) HI6.out.ou.lt 7 _) ((HI6.out.ou.pPos (pos + 1)).pSteps (steps + 1))
                clear HI6 HE3
                go_upto_region 31 with fail
                clear f2 f7 q2 q7
                generalize (W6.setCell ⟨z, 2, none⟩ (.int .i64 ((pos : Int) + 1))).setCell ⟨z, 7, none⟩ (.int .i64 ((steps : Int) + 1)) = W7 at *
                have hz9 : z < W7.heap.size := HO.out.ou.row.lt
                obtain ⟨f0, f1, f2, f3, f4, f5, f6, f7⟩ := HO.out.ou.cells
                dsimp only at f0 f1 f2 f3 f4 f5 f6 f7
                have g0 := HO.out.res.cell 0; have g1 := HO.out.res.cell 1; have g2 := HO.out.res.cell 2; have g3 := HO.out.res.cell 3; have g4 := HO.out.res.cell 4; have g5 := HO.out.res.cell 5; have g6 := HO.out.res.cell 6; have g7 := HO.out.res.cell 7
                have r0 := HO.out.res.frozen 0; have r1 := HO.out.res.frozen 1; have r2 := HO.out.res.frozen 2; have r3 := HO.out.res.frozen 3; have r4 := HO.out.res.frozen 4; have r5 := HO.out.res.frozen 5; have r6 := HO.out.res.frozen 6; have r7 := HO.out.res.frozen 7
                simp only [List.getElem?_toArray, List.getElem?_cons_zero, List.getElem?_cons_succ] at g0 g1 g2 g3 g4 g5 g6 g7
                go_wp2
                (try simp only [Exit.inBlock, Exit.then])
                refine bodyPost_ret (v := .agg #[.int .i64 st2, .int .i64 (blk2 : Int), .int .i64 (pos2 : Int), .int .i64 val2, .slice OA regs2.length oc, .slice OS sl2.length os, .slice A5 tr2.length c5, .int .i64 (steps2 : Int)]) ?_ rfl ⟨OA, oc, OS, os, A5, c5, rfl, (HO.out.ou.v.mods (mods8 W7 (w.heap.size + 1 + 1) _ _ _ _ _ _ _ _) (fun k hk => .inl (by unfold Is at hk; omega))).base (by omega), ?_⟩
                · exact results_cell_row rfl _ _ (w.heap.size + 1 + 1) 56 #[.int .i64 st2, .int .i64 (blk2 : Int), .int .i64 (pos2 : Int), .int .i64 val2, .slice OA regs2.length oc, .slice OS sl2.length os, .slice A5 tr2.length c5, .int .i64 (steps2 : Int)] (0, 0) _ rfl (HO.out.res.put8 _ _ _ _ _ _ _ _) Try.underlying56 rfl (by kernel_rfl)
                · exact blw8 (by omega) HO.out.below _ _ _ _ _ _ _ _
              exact AllReadyH.nil
            exact AllReadyH.nil
          exact AllReadyH.nil
        refine AllReadyH.cons rfl (fun K hK => ?_) ?_
        · go_simp
          refine hK.out _ _ HE3.out.2.1 (fun hHeld => ?_)
          clear hK K
          refine wpAnyH_ready (rs := [1]) (by kernel_rfl) (by simp) ?_
          refine AllReadyH.cons rfl (fun K hK => ?_) ?_
          · go_simp
            refine hK.out _ _ HE3.out.2.1 (fun hHeld => ?_)
            clear hK K
            refine wpAnyH_ready (rs := [9]) (by kernel_rfl) (by simp) ?_
            refine AllReadyH.cons rfl (fun K hK => ?_) ?_
            · refine step_append_any _ rfl (.tmp 106) (.tmp 113) 44 rfl (w.heap.size + 1 + 1 + 1) 2 i0 _ 1 8 Try.underlying44 hi hz0 hz1 hz2 rfl (by decide) (.slice OT tr.length ot) tr.length (ints tr) rfl HOA.out (W4.heap.size + 1) (some ⟨W4.heap.size, 0, none⟩) 1 1 (ints [x]) rfl HSX.out rfl (ints_one _) (by unfold maxLen; omega) (by omega) hlo1 ?_
              intro v5 W5 ho5 hg5 ha5
              obtain ⟨A5, c5, rfl, _, _⟩ := ownS_slice ho5
              have hgg : World.grownBy (W4.alloc (.cells #[.int .i64 x] 2)) W5 (Value.slice OT tr.length ot).ownBlock := ⟨hg5.os, hg5.tape, hg5.output, hg5.size, hg5.block⟩
              obtain ⟨hrow, hI2, hbl2⟩ := HAP.out W5 A5 c5 hgg (by rw [ints_append]; exact ho5) ha5
              have f6 : W5.cell? ⟨z, 6, none⟩ = some (.slice OT tr.length ot) := by rw [hrow.cell]; rfl
              have r6 := hrow.frozen 6
              have HI2 := Lib.hid (And.intro hI2 hbl2)
              have HKW := Lib.hid (HE3.out.2.2 W5 hgg)
              clear ho5 hg5 ha5 hgg hrow hI2 hbl2
              refine hK.out _ _ HKW.out.1 (fun hHeld => ?_)
              clear hK K
              refine take_at 10 115 (.pointer (some ⟨z, 6, none⟩)) rfl rfl (by kernel_rfl) (by kernel_rfl) (by kernel_rfl) (fun _ _ _ h => h) (Or.inl ⟨by rfl, ?_⟩) hHeld ?_
              · intro w9 hSw
                (try dsimp only at hSw)
                go_simp
              (try simp only [Act.put, List.setIfInBounds_toArray, List.set_cons_zero, List.set_cons_succ])
              refine wpAnyH_ready (rs := [11]) (by kernel_rfl) (by simp) ?_
              refine AllReadyH.cons rfl (fun K hK => ?_) ?_
              · go_simp
                refine hK.out _ _ (HKW.out.2 _) (fun hHeld => ?_)
                clear hK K
                refine wpAnyH_done (by kernel_rfl) ?_ _
                clear hHeld
                clear HOA HSX HAP HKW HE3 f6 r6
                have HE3 := HE3S
                clear HE3S
                have HI6 := Lib.hid (HW4.out.upd HI2.out.2 HI2.out.1)
                clear HI2 HW4
                generalize W5.setCell ⟨z, 6, none⟩ (.slice A5 (tr.length + 1) c5) = W6 at *
                obtain ⟨_, _, f2, _, _, _, _, f7⟩ := HI6.out.ou.cells
                have q2 := HI6.out.ou.row.frozen 2; have q7 := HI6.out.ou.row.frozen 7
                dsimp only at f2 f7
                have HO : Hid (RsX w args regs0 slots0 (some ⟨b, o, none⟩) nb bc (some ⟨g, 0, none⟩) rc SA sc TA tc ⟨0, blk, pos, val, regs, sl, tr, steps⟩ z OA oc OS os A5 c5 (⟨st2, blk2, pos2, val2, regs2, sl2, tr2, steps2⟩ : Xn) ((W6.setCell ⟨z, 2, none⟩ (.int .i64 ((pos : Int) + 1))).setCell ⟨z, 7, none⟩ (.int .i64 ((steps : Int) + 1)))) := by
                  rw [Hid, HE3.out]
                  exact HI6.out.upd (blwq (blwq (Below.refl _ _) HI6.out.ou.lt 2 _) HI6.out.ou.lt 7 _) ((HI6.out.ou.pPos (pos + 1)).pSteps (steps + 1))
                clear HI6 HE3
                go_upto_region 31 with fail
                clear f2 f7 q2 q7
                generalize (W6.setCell ⟨z, 2, none⟩ (.int .i64 ((pos : Int) + 1))).setCell ⟨z, 7, none⟩ (.int .i64 ((steps : Int) + 1)) = W7 at *
                have hz9 : z < W7.heap.size := HO.out.ou.row.lt
                obtain ⟨f0, f1, f2, f3, f4, f5, f6, f7⟩ := HO.out.ou.cells
                dsimp only at f0 f1 f2 f3 f4 f5 f6 f7
                have g0 := HO.out.res.cell 0; have g1 := HO.out.res.cell 1; have g2 := HO.out.res.cell 2; have g3 := HO.out.res.cell 3; have g4 := HO.out.res.cell 4; have g5 := HO.out.res.cell 5; have g6 := HO.out.res.cell 6; have g7 := HO.out.res.cell 7
                have r0 := HO.out.res.frozen 0; have r1 := HO.out.res.frozen 1; have r2 := HO.out.res.frozen 2; have r3 := HO.out.res.frozen 3; have r4 := HO.out.res.frozen 4; have r5 := HO.out.res.frozen 5; have r6 := HO.out.res.frozen 6; have r7 := HO.out.res.frozen 7
                simp only [List.getElem?_toArray, List.getElem?_cons_zero, List.getElem?_cons_succ] at g0 g1 g2 g3 g4 g5 g6 g7
                go_wp2
                (try simp only [Exit.inBlock, Exit.then])
                refine bodyPost_ret (v := .agg #[.int .i64 st2, .int .i64 (blk2 : Int), .int .i64 (pos2 : Int), .int .i64 val2, .slice OA regs2.length oc, .slice OS sl2.length os, .slice A5 tr2.length c5, .int .i64 (steps2 : Int)]) ?_ rfl ⟨OA, oc, OS, os, A5, c5, rfl, (HO.out.ou.v.mods (mods8 W7 (w.heap.size + 1 + 1) _ _ _ _ _ _ _ _) (fun k hk => .inl (by unfold Is at hk; omega))).base (by omega), ?_⟩
                · exact results_cell_row rfl _ _ (w.heap.size + 1 + 1) 56 #[.int .i64 st2, .int .i64 (blk2 : Int), .int .i64 (pos2 : Int), .int .i64 val2, .slice OA regs2.length oc, .slice OS sl2.length os, .slice A5 tr2.length c5, .int .i64 (steps2 : Int)] (0, 0) _ rfl (HO.out.res.put8 _ _ _ _ _ _ _ _) Try.underlying56 rfl (by kernel_rfl)
                · exact blw8 (by omega) HO.out.below _ _ _ _ _ _ _ _
              exact AllReadyH.nil
            exact AllReadyH.nil
          exact AllReadyH.nil
        exact AllReadyH.nil
      · have e17 : (x.op == 17) = false := by simp [h17]
        have e18 : (x.op == 18) = false := by simp [h18]
        have HE3S : Hid ((⟨st2, blk2, pos2, val2, regs2, sl2, tr2, steps2⟩ : Xn) = if evo x.op (rg regs x.b) = true then { (⟨0, blk, pos, val, regs, sl, tr, steps⟩ : Xn) with regs := regs.set x.d.toNat (ev x.op (rg regs x.a) (rg regs x.b) x.imm), pos := pos + 1, steps := steps + 1 } else { (⟨0, blk, pos, val, regs, sl, tr, steps⟩ : Xn) with st := 2 }) := by rw [Hid, HE2.out, xperf, if_neg h18, if_neg h17]
        have hxa := HG.out.reg ha0 ha1
        have hxb' := HG.out.reg hb0 hb1'
        obtain ⟨op, d, ia, ib, imm, dst, src⟩ := x
        dsimp only at *
        obtain ⟨a, rfl⟩ := Int.eq_ofNat_of_zero_le ha0
        obtain ⟨bb, rfl⟩ := Int.eq_ofNat_of_zero_le hb0
        obtain ⟨dd, rfl⟩ := Int.eq_ofNat_of_zero_le hd0
        have han : a < regs.length := by omega
        have hbn2 : bb < regs.length := by omega
        have hdn : dd < regs.length := by omega
        rw [Int.toNat_natCast] at HE3S
        obtain ⟨g, rfl, _⟩ := regs_at HV.out.regs han
        have hgl := (ownS_lt HV.out.regs g rfl).2
        have hG : RxX w args regs0 slots0 (some ⟨b, o, none⟩) nb bc (some ⟨g, 0, none⟩) rc SA sc TA tc (⟨0, blk, pos, val, regs, sl, tr, steps⟩ : Xn) z OA oc OS os OT ot (⟨0, blk, pos, val, regs, sl, tr, steps⟩ : Xn) xb ⟨op, (dd : Int), (a : Int), (bb : Int), imm, dst, src⟩ W4 := ⟨HW4.out, HIR.out⟩
        have HGC : Hid (∀ W, RxX w args regs0 slots0 (some ⟨b, o, none⟩) nb bc (some ⟨g, 0, none⟩) rc SA sc TA tc (⟨0, blk, pos, val, regs, sl, tr, steps⟩ : Xn) z OA oc OS os OT ot (⟨0, blk, pos, val, regs, sl, tr, steps⟩ : Xn) xb ⟨op, (dd : Int), (a : Int), (bb : Int), imm, dst, src⟩ W → W.cell? ⟨xb, 0, none⟩ = some (.int .i64 op) ∧ W.cell? ⟨xb, 2, none⟩ = some (.int .i64 (a : Int)) ∧ W.cell? ⟨xb, 3, none⟩ = some (.int .i64 (bb : Int)) ∧ W.cell? ⟨xb, 4, none⟩ = some (.int .i64 imm) ∧ W.cell? ⟨w.heap.size + 1, 4, none⟩ = some (.slice (some ⟨g, 0, none⟩) regs.length rc) ∧ W.cell? ⟨g, a, none⟩ = some (.int .i64 (rg regs (a : Int))) ∧ W.cell? ⟨g, bb, none⟩ = some (.int .i64 (rg regs (bb : Int)))) := fun W h =>
          ⟨h.ix.cell 0, h.ix.cell 2, h.ix.cell 3, h.ix.cell 4, h.rs.bx.cell 4, (h.rs.below.cell (p := ⟨g, a, none⟩) hgl).trans (HV.out.regc han), (h.rs.below.cell (p := ⟨g, bb, none⟩) hgl).trans (HV.out.regc hbn2)⟩
        have C1 := Lib.hid fun W (h : RxX w args regs0 slots0 (some ⟨b, o, none⟩) nb bc (some ⟨g, 0, none⟩) rc SA sc TA tc (⟨0, blk, pos, val, regs, sl, tr, steps⟩ : Xn) z OA oc OS os OT ot (⟨0, blk, pos, val, regs, sl, tr, steps⟩ : Xn) xb ⟨op, (dd : Int), (a : Int), (bb : Int), imm, dst, src⟩ W) => (reval_any op (rg regs (a : Int)) (rg regs (bb : Int)) imm W hxa hxb').mono fun e w' ⟨he, hb⟩ => (⟨he, h.next hb⟩ : e = _ ∧ RxX w args regs0 slots0 (some ⟨b, o, none⟩) nb bc (some ⟨g, 0, none⟩) rc SA sc TA tc (⟨0, blk, pos, val, regs, sl, tr, steps⟩ : Xn) z OA oc OS os OT ot (⟨0, blk, pos, val, regs, sl, tr, steps⟩ : Xn) xb ⟨op, (dd : Int), (a : Int), (bb : Int), imm, dst, src⟩ w')
        clear HE2 hxa hxb' HW4 HIR s0
        generalize rg regs (a : Int) = x at *
        generalize rg regs (bb : Int) = yy at *
        generalize ev op x yy imm = v at *
        generalize evo op yy = ok at *
        obtain ⟨s1, s2, s3, s4, s5, s6, s7⟩ := HGC.out _ hG
        go_upto_region 24 with fail
        go_region_held3 (fun w' => w'.cell? ⟨xb, 0, none⟩ = some (.int .i64 op) ∧ w'.cell? ⟨xb, 2, none⟩ = some (.int .i64 (a : Int)) ∧ w'.cell? ⟨xb, 3, none⟩ = some (.int .i64 (bb : Int)) ∧ w'.cell? ⟨xb, 4, none⟩ = some (.int .i64 imm) ∧ w'.cell? ⟨w.heap.size + 1, 4, none⟩ = some (.slice (some ⟨g, 0, none⟩) regs.length rc) ∧ w'.cell? ⟨g, a, none⟩ = some (.int .i64 x) ∧ w'.cell? ⟨g, bb, none⟩ = some (.int .i64 yy)) (first | exact HGC.out _ hG | exact HGC.out _ hG.drew | exact HGC.out _ (hG.drewN _)) (first
          | (go_at_call 38; go_must ((with_reducible refine (C1.out _ (by first | exact hG | exact hG.drew | exact hG.drewN _)).mono ?_); rintro e W5 ⟨rfl, hG⟩))
          )
        obtain ⟨gq, hg2, _⟩ := regs_at hG.rs.ou.v.regs hdn
        subst hg2
        have hrc := hG.rs.ou.v.regc hdn
        have hrf := own_frozen hG.rs.ou.v.regs (g := gq) (k := dd) rfl
        have hgqz : ¬ gq = z := hG.rs.ou.nr gq rfl
        obtain ⟨f0, _, _, _, f4, _, _, _⟩ := hG.rs.ou.cells
        have q0 := hG.rs.ou.row.frozen 0; have i1 := hG.ix.cell 1
        simp only [List.getElem?_toArray, List.getElem?_cons_zero, List.getElem?_cons_succ] at i1
        dsimp only at f0 f4
        have hz5 : z < W5.heap.size := hG.rs.ou.row.lt
        have HG5 := Lib.hid hG.rs
        clear hG s1 s2 s3 s4 s5 s6 s7 C1 HGC
        cases ok
        · have hX := HE3S.out
          rw [if_neg (by decide)] at hX
          have HO : Hid (RsX w args regs0 slots0 (some ⟨b, o, none⟩) nb bc (some ⟨g, 0, none⟩) rc SA sc TA tc ⟨0, blk, pos, val, regs, sl, tr, steps⟩ z (some ⟨gq, 0, none⟩) oc OS os OT ot (⟨st2, blk2, pos2, val2, regs2, sl2, tr2, steps2⟩ : Xn) (W5.setCell ⟨z, 0, none⟩ (.int .i64 2))) := by
            rw [Hid, hX]
            exact HG5.out.upd (blwq (Below.refl _ _) HG5.out.ou.lt 0 _) (HG5.out.ou.pSt 2)
          clear hX HG5 HE3S
          go_upto_region 27 with fail
          clear f0 f4 q0 i1 hrc hrf
          generalize W5.setCell ⟨z, 0, none⟩ (.int .i64 2) = W7 at *
          have hz9 : z < W7.heap.size := HO.out.ou.row.lt
          obtain ⟨f0, f1, f2, f3, f4, f5, f6, f7⟩ := HO.out.ou.cells
          dsimp only at f0 f1 f2 f3 f4 f5 f6 f7
          have g0 := HO.out.res.cell 0; have g1 := HO.out.res.cell 1; have g2 := HO.out.res.cell 2; have g3 := HO.out.res.cell 3; have g4 := HO.out.res.cell 4; have g5 := HO.out.res.cell 5; have g6 := HO.out.res.cell 6; have g7 := HO.out.res.cell 7
          have r0 := HO.out.res.frozen 0; have r1 := HO.out.res.frozen 1; have r2 := HO.out.res.frozen 2; have r3 := HO.out.res.frozen 3; have r4 := HO.out.res.frozen 4; have r5 := HO.out.res.frozen 5; have r6 := HO.out.res.frozen 6; have r7 := HO.out.res.frozen 7
          simp only [List.getElem?_toArray, List.getElem?_cons_zero, List.getElem?_cons_succ] at g0 g1 g2 g3 g4 g5 g6 g7
          go_wp2
          (try simp only [Exit.inBlock, Exit.then])
          refine bodyPost_ret (v := .agg #[.int .i64 st2, .int .i64 (blk2 : Int), .int .i64 (pos2 : Int), .int .i64 val2, .slice (some ⟨gq, 0, none⟩) regs2.length oc, .slice OS sl2.length os, .slice OT tr2.length ot, .int .i64 (steps2 : Int)]) ?_ rfl ⟨(some ⟨gq, 0, none⟩), oc, OS, os, OT, ot, rfl, (HO.out.ou.v.mods (mods8 W7 (w.heap.size + 1 + 1) _ _ _ _ _ _ _ _) (fun k hk => .inl (by unfold Is at hk; omega))).base (by omega), ?_⟩
          · exact results_cell_row rfl _ _ (w.heap.size + 1 + 1) 56 #[.int .i64 st2, .int .i64 (blk2 : Int), .int .i64 (pos2 : Int), .int .i64 val2, .slice (some ⟨gq, 0, none⟩) regs2.length oc, .slice OS sl2.length os, .slice OT tr2.length ot, .int .i64 (steps2 : Int)] (0, 0) _ rfl (HO.out.res.put8 _ _ _ _ _ _ _ _) Try.underlying56 rfl (by kernel_rfl)
          · exact blw8 (by omega) HO.out.below _ _ _ _ _ _ _ _
        · have hX := HE3S.out
          rw [if_pos rfl] at hX
          have HE3 := Lib.hid hX
          obtain ⟨hI4, hb4⟩ := HG5.out.ou.setreg (v := v) hdn
          have HI6 := Lib.hid (HG5.out.upd hb4 hI4)
          clear hI4 hb4 HG5 hX HE3S
          go_upto_region 29 with fail
          clear f0 f4 q0 i1 hrc hrf
          generalize W5.setCell ⟨gq, dd, none⟩ (.int .i64 v) = W6 at *
          obtain ⟨_, _, f2, _, _, _, _, f7⟩ := HI6.out.ou.cells
          have q2 := HI6.out.ou.row.frozen 2; have q7 := HI6.out.ou.row.frozen 7
          dsimp only at f2 f7
          have HO : Hid (RsX w args regs0 slots0 (some ⟨b, o, none⟩) nb bc (some ⟨g, 0, none⟩) rc SA sc TA tc ⟨0, blk, pos, val, regs, sl, tr, steps⟩ z (some ⟨gq, 0, none⟩) oc OS os OT ot (⟨st2, blk2, pos2, val2, regs2, sl2, tr2, steps2⟩ : Xn) ((W6.setCell ⟨z, 2, none⟩ (.int .i64 ((pos : Int) + 1))).setCell ⟨z, 7, none⟩ (.int .i64 ((steps : Int) + 1)))) := by
            rw [Hid, HE3.out]
            exact HI6.out.upd (blwq (blwq (Below.refl _ _) HI6.out.ou.lt 2 _) HI6.out.ou.lt 7 _) ((HI6.out.ou.pPos (pos + 1)).pSteps (steps + 1))
          clear HI6 HE3
          go_upto_region 31 with fail
          clear f2 f7 q2 q7
          generalize (W6.setCell ⟨z, 2, none⟩ (.int .i64 ((pos : Int) + 1))).setCell ⟨z, 7, none⟩ (.int .i64 ((steps : Int) + 1)) = W7 at *
          have hz9 : z < W7.heap.size := HO.out.ou.row.lt
          obtain ⟨f0, f1, f2, f3, f4, f5, f6, f7⟩ := HO.out.ou.cells
          dsimp only at f0 f1 f2 f3 f4 f5 f6 f7
          have g0 := HO.out.res.cell 0; have g1 := HO.out.res.cell 1; have g2 := HO.out.res.cell 2; have g3 := HO.out.res.cell 3; have g4 := HO.out.res.cell 4; have g5 := HO.out.res.cell 5; have g6 := HO.out.res.cell 6; have g7 := HO.out.res.cell 7
          have r0 := HO.out.res.frozen 0; have r1 := HO.out.res.frozen 1; have r2 := HO.out.res.frozen 2; have r3 := HO.out.res.frozen 3; have r4 := HO.out.res.frozen 4; have r5 := HO.out.res.frozen 5; have r6 := HO.out.res.frozen 6; have r7 := HO.out.res.frozen 7
          simp only [List.getElem?_toArray, List.getElem?_cons_zero, List.getElem?_cons_succ] at g0 g1 g2 g3 g4 g5 g6 g7
          go_wp2
          (try simp only [Exit.inBlock, Exit.then])
          refine bodyPost_ret (v := .agg #[.int .i64 st2, .int .i64 (blk2 : Int), .int .i64 (pos2 : Int), .int .i64 val2, .slice (some ⟨gq, 0, none⟩) regs2.length oc, .slice OS sl2.length os, .slice OT tr2.length ot, .int .i64 (steps2 : Int)]) ?_ rfl ⟨(some ⟨gq, 0, none⟩), oc, OS, os, OT, ot, rfl, (HO.out.ou.v.mods (mods8 W7 (w.heap.size + 1 + 1) _ _ _ _ _ _ _ _) (fun k hk => .inl (by unfold Is at hk; omega))).base (by omega), ?_⟩
          · exact results_cell_row rfl _ _ (w.heap.size + 1 + 1) 56 #[.int .i64 st2, .int .i64 (blk2 : Int), .int .i64 (pos2 : Int), .int .i64 val2, .slice (some ⟨gq, 0, none⟩) regs2.length oc, .slice OS sl2.length os, .slice OT tr2.length ot, .int .i64 (steps2 : Int)] (0, 0) _ rfl (HO.out.res.put8 _ _ _ _ _ _ _ _) Try.underlying56 rfl (by kernel_rfl)
          · exact blw8 (by omega) HO.out.below _ _ _ _ _ _ _ _
    · obtain hpe : pos = y.code.length := by omega
      have e5 : ((pos : Int) == (y.code.length : Int)) = true := by simp [hpe]
      have HE2 : Hid ((⟨st2, blk2, pos2, val2, regs2, sl2, tr2, steps2⟩ : Xn) = xleav y.term (⟨0, blk, pos, val, regs, sl, tr, steps⟩ : Xn)) := by rw [Hid, HEE.out, dif_neg hlt]
      clear HIN HEE hins hpe hlt
      obtain ⟨code, ⟨kind, ta, tt, el⟩⟩ := y
      dsimp only at *
      have f7 := HW3.out.ou.cells.2.2.2.2.2.2.2; have q7 := HW3.out.ou.row.frozen 7; have k1 := HBK.out.cell 1
      simp only [List.getElem?_toArray, List.getElem?_cons_zero, List.getElem?_cons_succ] at k1
      dsimp only at f7
      have hyz : ¬ yb = z := by omega
      have hm7 := (Mods.refl (Is z) W3).put 7 (.int .i64 ((steps : Int) + 1))
      have HBK4 := Lib.hid (HBK.out.mods hm7 hyz)
      have HO4 : Hid (RsX w args regs0 slots0 (some ⟨b, o, none⟩) nb bc RA rc SA sc TA tc ⟨0, blk, pos, val, regs, sl, tr, steps⟩ z OA oc OS os OT ot ⟨0, blk, pos, val, regs, sl, tr, steps + 1⟩ (W3.setCell ⟨z, 7, none⟩ (.int .i64 ((steps : Int) + 1)))) := HW3.out.upd (blwq (Below.refl _ _) HW3.out.ou.lt 7 _) (HW3.out.ou.pSteps (steps + 1))
      go_upto_region 7 with fail
      clear f7 q7 k1 p2 k0 e5 hm7 HW3 HBK
      generalize W3.setCell ⟨z, 7, none⟩ (.int .i64 ((steps : Int) + 1)) = W4 at *
      have k1 := HBK4.out.cell 1; have k2 := HBK4.out.cell 2; have k3 := HBK4.out.cell 3; have k4 := HBK4.out.cell 4; have s4 := HO4.out.bx.cell 4
      obtain ⟨f0, f1, f2, f3, _, _, _, _⟩ := HO4.out.ou.cells
      have q0 := HO4.out.ou.row.frozen 0; have q1 := HO4.out.ou.row.frozen 1; have q2 := HO4.out.ou.row.frozen 2; have q3 := HO4.out.ou.row.frozen 3
      simp only [List.getElem?_toArray, List.getElem?_cons_zero, List.getElem?_cons_succ] at k1 k2 k3 k4 s4
      dsimp only at f0 f1 f2 f3
      have hz4 : z < W4.heap.size := HO4.out.ou.row.lt
      have hlz4 := HO4.out.ou.lt
      rcases htm with ⟨hk, ht0, ht1⟩ | ⟨hk, ha0, ha1, ht0, ht1, he0, he1⟩ | ⟨hk, ha0, ha1⟩
      · dsimp only at hk ht0 ht1
        subst hk
        obtain ⟨tn, rfl⟩ := Int.eq_ofNat_of_zero_le ht0
        have HO : Hid (RsX w args regs0 slots0 (some ⟨b, o, none⟩) nb bc RA rc SA sc TA tc ⟨0, blk, pos, val, regs, sl, tr, steps⟩ z OA oc OS os OT ot (⟨st2, blk2, pos2, val2, regs2, sl2, tr2, steps2⟩ : Xn) ((W4.setCell ⟨z, 1, none⟩ (.int .i64 (tn : Int))).setCell ⟨z, 2, none⟩ (.int .i64 0))) := by
          have h9 : (⟨st2, blk2, pos2, val2, regs2, sl2, tr2, steps2⟩ : Xn) = ⟨0, tn, 0, val, regs, sl, tr, steps + 1⟩ := by
            rw [HE2.out, xleav, if_neg (show ¬ (1 : Int) = 3 by decide)]
            simp
          rw [Hid, h9]
          exact HO4.out.upd (blwq (blwq (Below.refl _ _) hlz4 1 _) hlz4 2 _) ((HO4.out.ou.pBlk tn).pPos 0)
        clear HE2 HO4 ht0 ht1
        go_upto_region 15 with fail
        clear k1 k2 k3 k4 s4 f0 f1 f2 f3 q0 q1 q2 q3 HBK4
        generalize (W4.setCell ⟨z, 1, none⟩ (.int .i64 (tn : Int))).setCell ⟨z, 2, none⟩ (.int .i64 0) = W7 at *
        have hz9 : z < W7.heap.size := HO.out.ou.row.lt
        obtain ⟨f0, f1, f2, f3, f4, f5, f6, f7⟩ := HO.out.ou.cells
        dsimp only at f0 f1 f2 f3 f4 f5 f6 f7
        have g0 := HO.out.res.cell 0; have g1 := HO.out.res.cell 1; have g2 := HO.out.res.cell 2; have g3 := HO.out.res.cell 3; have g4 := HO.out.res.cell 4; have g5 := HO.out.res.cell 5; have g6 := HO.out.res.cell 6; have g7 := HO.out.res.cell 7
        have r0 := HO.out.res.frozen 0; have r1 := HO.out.res.frozen 1; have r2 := HO.out.res.frozen 2; have r3 := HO.out.res.frozen 3; have r4 := HO.out.res.frozen 4; have r5 := HO.out.res.frozen 5; have r6 := HO.out.res.frozen 6; have r7 := HO.out.res.frozen 7
        simp only [List.getElem?_toArray, List.getElem?_cons_zero, List.getElem?_cons_succ] at g0 g1 g2 g3 g4 g5 g6 g7
        go_wp2
        (try simp only [Exit.inBlock, Exit.then])
        refine bodyPost_ret (v := .agg #[.int .i64 st2, .int .i64 (blk2 : Int), .int .i64 (pos2 : Int), .int .i64 val2, .slice OA regs2.length oc, .slice OS sl2.length os, .slice OT tr2.length ot, .int .i64 (steps2 : Int)]) ?_ rfl ⟨OA, oc, OS, os, OT, ot, rfl, (HO.out.ou.v.mods (mods8 W7 (w.heap.size + 1 + 1) _ _ _ _ _ _ _ _) (fun k hk => .inl (by unfold Is at hk; omega))).base (by omega), ?_⟩
        · exact results_cell_row rfl _ _ (w.heap.size + 1 + 1) 56 #[.int .i64 st2, .int .i64 (blk2 : Int), .int .i64 (pos2 : Int), .int .i64 val2, .slice OA regs2.length oc, .slice OS sl2.length os, .slice OT tr2.length ot, .int .i64 (steps2 : Int)] (0, 0) _ rfl (HO.out.res.put8 _ _ _ _ _ _ _ _) Try.underlying56 rfl (by kernel_rfl)
        · exact blw8 (by omega) HO.out.below _ _ _ _ _ _ _ _
      · dsimp only at hk ha0 ha1 ht0 ht1 he0 he1
        subst hk
        obtain ⟨a, rfl⟩ := Int.eq_ofNat_of_zero_le ha0
        obtain ⟨tn, rfl⟩ := Int.eq_ofNat_of_zero_le ht0
        obtain ⟨en, rfl⟩ := Int.eq_ofNat_of_zero_le he0
        have han : a < regs.length := by omega
        obtain ⟨g, rfl, hga⟩ := regs_at HV.out.regs han
        have hgl := (ownS_lt HV.out.regs g rfl).2
        have hga4 := (HO4.out.below.cell (p := ⟨g, a, none⟩) hgl).trans hga
        have hgz : ¬ g = z := by omega
        have HE3S : Hid ((⟨st2, blk2, pos2, val2, regs2, sl2, tr2, steps2⟩ : Xn) = ⟨0, if rg regs (a : Int) = 0 then en else tn, 0, val, regs, sl, tr, steps + 1⟩) := by
          rw [Hid, HE2.out, xleav, if_neg (show ¬ (2 : Int) = 3 by decide)]
          simp
        clear HE2 ha0 ha1 ht0 ht1 he0 he1 hga
        dsimp only at hga4
        generalize rg regs (a : Int) = x at *
        by_cases hx : x = 0
        · subst hx
          have hX := HE3S.out
          rw [if_pos rfl] at hX
          have HO : Hid (RsX w args regs0 slots0 (some ⟨b, o, none⟩) nb bc (some ⟨g, 0, none⟩) rc SA sc TA tc ⟨0, blk, pos, val, regs, sl, tr, steps⟩ z OA oc OS os OT ot (⟨st2, blk2, pos2, val2, regs2, sl2, tr2, steps2⟩ : Xn) (((W4.setCell ⟨z, 1, none⟩ (.int .i64 (tn : Int))).setCell ⟨z, 1, none⟩ (.int .i64 (en : Int))).setCell ⟨z, 2, none⟩ (.int .i64 0))) := by
            rw [Hid, hX]
            exact HO4.out.upd (blwq (blwq (blwq (Below.refl _ _) hlz4 1 _) hlz4 1 _) hlz4 2 _) (((HO4.out.ou.pBlk tn).pBlk en).pPos 0)
          clear hX HE3S HO4
          go_upto_region 15 with fail
          clear k1 k2 k3 k4 s4 f0 f1 f2 f3 q0 q1 q2 q3 HBK4 hga4
          generalize ((W4.setCell ⟨z, 1, none⟩ (.int .i64 (tn : Int))).setCell ⟨z, 1, none⟩ (.int .i64 (en : Int))).setCell ⟨z, 2, none⟩ (.int .i64 0) = W7 at *
          have hz9 : z < W7.heap.size := HO.out.ou.row.lt
          obtain ⟨f0, f1, f2, f3, f4, f5, f6, f7⟩ := HO.out.ou.cells
          dsimp only at f0 f1 f2 f3 f4 f5 f6 f7
          have g0 := HO.out.res.cell 0; have g1 := HO.out.res.cell 1; have g2 := HO.out.res.cell 2; have g3 := HO.out.res.cell 3; have g4 := HO.out.res.cell 4; have g5 := HO.out.res.cell 5; have g6 := HO.out.res.cell 6; have g7 := HO.out.res.cell 7
          have r0 := HO.out.res.frozen 0; have r1 := HO.out.res.frozen 1; have r2 := HO.out.res.frozen 2; have r3 := HO.out.res.frozen 3; have r4 := HO.out.res.frozen 4; have r5 := HO.out.res.frozen 5; have r6 := HO.out.res.frozen 6; have r7 := HO.out.res.frozen 7
          simp only [List.getElem?_toArray, List.getElem?_cons_zero, List.getElem?_cons_succ] at g0 g1 g2 g3 g4 g5 g6 g7
          go_wp2
          (try simp only [Exit.inBlock, Exit.then])
          refine bodyPost_ret (v := .agg #[.int .i64 st2, .int .i64 (blk2 : Int), .int .i64 (pos2 : Int), .int .i64 val2, .slice OA regs2.length oc, .slice OS sl2.length os, .slice OT tr2.length ot, .int .i64 (steps2 : Int)]) ?_ rfl ⟨OA, oc, OS, os, OT, ot, rfl, (HO.out.ou.v.mods (mods8 W7 (w.heap.size + 1 + 1) _ _ _ _ _ _ _ _) (fun k hk => .inl (by unfold Is at hk; omega))).base (by omega), ?_⟩
          · exact results_cell_row rfl _ _ (w.heap.size + 1 + 1) 56 #[.int .i64 st2, .int .i64 (blk2 : Int), .int .i64 (pos2 : Int), .int .i64 val2, .slice OA regs2.length oc, .slice OS sl2.length os, .slice OT tr2.length ot, .int .i64 (steps2 : Int)] (0, 0) _ rfl (HO.out.res.put8 _ _ _ _ _ _ _ _) Try.underlying56 rfl (by kernel_rfl)
          · exact blw8 (by omega) HO.out.below _ _ _ _ _ _ _ _
        · have hx0 : (x == 0) = false := by simp [hx]
          have hX := HE3S.out
          rw [if_neg hx] at hX
          have HO : Hid (RsX w args regs0 slots0 (some ⟨b, o, none⟩) nb bc (some ⟨g, 0, none⟩) rc SA sc TA tc ⟨0, blk, pos, val, regs, sl, tr, steps⟩ z OA oc OS os OT ot (⟨st2, blk2, pos2, val2, regs2, sl2, tr2, steps2⟩ : Xn) ((W4.setCell ⟨z, 1, none⟩ (.int .i64 (tn : Int))).setCell ⟨z, 2, none⟩ (.int .i64 0))) := by
            rw [Hid, hX]
            exact HO4.out.upd (blwq (blwq (Below.refl _ _) hlz4 1 _) hlz4 2 _) ((HO4.out.ou.pBlk tn).pPos 0)
          clear hX HE3S HO4 hx
          go_upto_region 15 with fail
          clear k1 k2 k3 k4 s4 f0 f1 f2 f3 q0 q1 q2 q3 HBK4 hga4 hx0
          generalize (W4.setCell ⟨z, 1, none⟩ (.int .i64 (tn : Int))).setCell ⟨z, 2, none⟩ (.int .i64 0) = W7 at *
          have hz9 : z < W7.heap.size := HO.out.ou.row.lt
          obtain ⟨f0, f1, f2, f3, f4, f5, f6, f7⟩ := HO.out.ou.cells
          dsimp only at f0 f1 f2 f3 f4 f5 f6 f7
          have g0 := HO.out.res.cell 0; have g1 := HO.out.res.cell 1; have g2 := HO.out.res.cell 2; have g3 := HO.out.res.cell 3; have g4 := HO.out.res.cell 4; have g5 := HO.out.res.cell 5; have g6 := HO.out.res.cell 6; have g7 := HO.out.res.cell 7
          have r0 := HO.out.res.frozen 0; have r1 := HO.out.res.frozen 1; have r2 := HO.out.res.frozen 2; have r3 := HO.out.res.frozen 3; have r4 := HO.out.res.frozen 4; have r5 := HO.out.res.frozen 5; have r6 := HO.out.res.frozen 6; have r7 := HO.out.res.frozen 7
          simp only [List.getElem?_toArray, List.getElem?_cons_zero, List.getElem?_cons_succ] at g0 g1 g2 g3 g4 g5 g6 g7
          go_wp2
          (try simp only [Exit.inBlock, Exit.then])
          refine bodyPost_ret (v := .agg #[.int .i64 st2, .int .i64 (blk2 : Int), .int .i64 (pos2 : Int), .int .i64 val2, .slice OA regs2.length oc, .slice OS sl2.length os, .slice OT tr2.length ot, .int .i64 (steps2 : Int)]) ?_ rfl ⟨OA, oc, OS, os, OT, ot, rfl, (HO.out.ou.v.mods (mods8 W7 (w.heap.size + 1 + 1) _ _ _ _ _ _ _ _) (fun k hk => .inl (by unfold Is at hk; omega))).base (by omega), ?_⟩
          · exact results_cell_row rfl _ _ (w.heap.size + 1 + 1) 56 #[.int .i64 st2, .int .i64 (blk2 : Int), .int .i64 (pos2 : Int), .int .i64 val2, .slice OA regs2.length oc, .slice OS sl2.length os, .slice OT tr2.length ot, .int .i64 (steps2 : Int)] (0, 0) _ rfl (HO.out.res.put8 _ _ _ _ _ _ _ _) Try.underlying56 rfl (by kernel_rfl)
          · exact blw8 (by omega) HO.out.below _ _ _ _ _ _ _ _
      · dsimp only at hk ha0 ha1
        subst hk
        obtain ⟨a, rfl⟩ := Int.eq_ofNat_of_zero_le ha0
        have han : a < regs.length := by omega
        obtain ⟨g, rfl, hga⟩ := regs_at HV.out.regs han
        have hgl := (ownS_lt HV.out.regs g rfl).2
        have hga4 := (HO4.out.below.cell (p := ⟨g, a, none⟩) hgl).trans hga
        have hgz : ¬ g = z := by omega
        have HE3S : Hid ((⟨st2, blk2, pos2, val2, regs2, sl2, tr2, steps2⟩ : Xn) = ⟨1, blk, pos, rg regs (a : Int), regs, sl, tr, steps + 1⟩) := by
          rw [Hid, HE2.out, xleav, if_pos rfl]
        clear HE2 ha0 ha1 hga
        dsimp only at hga4
        generalize rg regs (a : Int) = x at *
        have HO : Hid (RsX w args regs0 slots0 (some ⟨b, o, none⟩) nb bc (some ⟨g, 0, none⟩) rc SA sc TA tc ⟨0, blk, pos, val, regs, sl, tr, steps⟩ z OA oc OS os OT ot (⟨st2, blk2, pos2, val2, regs2, sl2, tr2, steps2⟩ : Xn) ((W4.setCell ⟨z, 0, none⟩ (.int .i64 1)).setCell ⟨z, 3, none⟩ (.int .i64 x))) := by
          rw [Hid, HE3S.out]
          exact HO4.out.upd (blwq (blwq (Below.refl _ _) hlz4 0 _) hlz4 3 _) ((HO4.out.ou.pSt 1).pVal x)
        clear HE3S HO4
        go_upto_region 10 with fail
        clear k1 k2 k3 k4 s4 f0 f1 f2 f3 q0 q1 q2 q3 HBK4 hga4
        generalize (W4.setCell ⟨z, 0, none⟩ (.int .i64 1)).setCell ⟨z, 3, none⟩ (.int .i64 x) = W7 at *
        have hz9 : z < W7.heap.size := HO.out.ou.row.lt
        obtain ⟨f0, f1, f2, f3, f4, f5, f6, f7⟩ := HO.out.ou.cells
        dsimp only at f0 f1 f2 f3 f4 f5 f6 f7
        have g0 := HO.out.res.cell 0; have g1 := HO.out.res.cell 1; have g2 := HO.out.res.cell 2; have g3 := HO.out.res.cell 3; have g4 := HO.out.res.cell 4; have g5 := HO.out.res.cell 5; have g6 := HO.out.res.cell 6; have g7 := HO.out.res.cell 7
        have r0 := HO.out.res.frozen 0; have r1 := HO.out.res.frozen 1; have r2 := HO.out.res.frozen 2; have r3 := HO.out.res.frozen 3; have r4 := HO.out.res.frozen 4; have r5 := HO.out.res.frozen 5; have r6 := HO.out.res.frozen 6; have r7 := HO.out.res.frozen 7
        simp only [List.getElem?_toArray, List.getElem?_cons_zero, List.getElem?_cons_succ] at g0 g1 g2 g3 g4 g5 g6 g7
        go_wp2
        (try simp only [Exit.inBlock, Exit.then])
        refine bodyPost_ret (v := .agg #[.int .i64 st2, .int .i64 (blk2 : Int), .int .i64 (pos2 : Int), .int .i64 val2, .slice OA regs2.length oc, .slice OS sl2.length os, .slice OT tr2.length ot, .int .i64 (steps2 : Int)]) ?_ rfl ⟨OA, oc, OS, os, OT, ot, rfl, (HO.out.ou.v.mods (mods8 W7 (w.heap.size + 1 + 1) _ _ _ _ _ _ _ _) (fun k hk => .inl (by unfold Is at hk; omega))).base (by omega), ?_⟩
        · exact results_cell_row rfl _ _ (w.heap.size + 1 + 1) 56 #[.int .i64 st2, .int .i64 (blk2 : Int), .int .i64 (pos2 : Int), .int .i64 val2, .slice OA regs2.length oc, .slice OS sl2.length os, .slice OT tr2.length ot, .int .i64 (steps2 : Int)] (0, 0) _ rfl (HO.out.res.put8 _ _ _ _ _ _ _ _) Try.underlying56 rfl (by kernel_rfl)
        · exact blw8 (by omega) HO.out.below _ _ _ _ _ _ _ _
  · have h00 : (st != 0) = true := by simp [h0]
    have HO : Hid (RsX w args regs0 slots0 BA nb bc RA rc SA sc TA tc ⟨st, blk, pos, val, regs, sl, tr, steps⟩ z OA oc OS os OT ot (⟨st2, blk2, pos2, val2, regs2, sl2, tr2, steps2⟩ : Xn) W2) := by
      rw [Hid, HE.out, stepX, if_neg (show ¬ st = 0 from h0)]
      exact HW.out
    clear h0 HE HW HS HF HG
    go_upto_region 3 with fail
    clear c0
    have hz9 : z < W2.heap.size := HO.out.ou.row.lt
    obtain ⟨f0, f1, f2, f3, f4, f5, f6, f7⟩ := HO.out.ou.cells
    dsimp only at f0 f1 f2 f3 f4 f5 f6 f7
    have g0 := HO.out.res.cell 0; have g1 := HO.out.res.cell 1; have g2 := HO.out.res.cell 2; have g3 := HO.out.res.cell 3; have g4 := HO.out.res.cell 4; have g5 := HO.out.res.cell 5; have g6 := HO.out.res.cell 6; have g7 := HO.out.res.cell 7
    have r0 := HO.out.res.frozen 0; have r1 := HO.out.res.frozen 1; have r2 := HO.out.res.frozen 2; have r3 := HO.out.res.frozen 3; have r4 := HO.out.res.frozen 4; have r5 := HO.out.res.frozen 5; have r6 := HO.out.res.frozen 6; have r7 := HO.out.res.frozen 7
    simp only [List.getElem?_toArray, List.getElem?_cons_zero, List.getElem?_cons_succ] at g0 g1 g2 g3 g4 g5 g6 g7
    go_wp2
    (try simp only [Exit.inBlock, Exit.then])
    refine bodyPost_ret (v := .agg #[.int .i64 st2, .int .i64 (blk2 : Int), .int .i64 (pos2 : Int), .int .i64 val2, .slice OA regs2.length oc, .slice OS sl2.length os, .slice OT tr2.length ot, .int .i64 (steps2 : Int)]) ?_ rfl ⟨OA, oc, OS, os, OT, ot, rfl, (HO.out.ou.v.mods (mods8 W2 (w.heap.size + 1 + 1) _ _ _ _ _ _ _ _) (fun k hk => .inl (by unfold Is at hk; omega))).base (by omega), ?_⟩
    · exact results_cell_row rfl _ _ (w.heap.size + 1 + 1) 56 #[.int .i64 st2, .int .i64 (blk2 : Int), .int .i64 (pos2 : Int), .int .i64 val2, .slice OA regs2.length oc, .slice OS sl2.length os, .slice OT tr2.length ot, .int .i64 (steps2 : Int)] (0, 0) _ rfl (HO.out.res.put8 _ _ _ _ _ _ _ _) Try.underlying56 rfl (by kernel_rfl)
    · exact blw8 (by omega) HO.out.below _ _ _ _ _ _ _ _

end Go.Proofs.Ytabebkkicpcjcaa
