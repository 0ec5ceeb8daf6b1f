/-
  The program's perform.
-/
import Derived.Test.YtfkknebjhcafhaaRunEmit
import Derived.Test.YtfkknebjhcafhaaAluEval
import Derived.Deep.RegionHeld3
import Derived.Deep.DeepMust
import Derived.RegionTactic
import Derived.ChangeAlike
namespace Go.Proofs.Ytfkknebjhcafhaa
open Go.RowKit
set_option linter.unusedVariables false

section
variable {w w' : World} {lo q : Nat} {RA SA TA BA : Option Addr} {rc sc tc bl bc : Nat} {r : Rn}
theorem ints_set (l : List Int) (k : Nat) (v : Int) : ints (l.set k v) = (ints l).set k (.int .i64 v) := by simp [ints, List.map_set]
/-- A register is set. -/
theorem Ip.setreg {g k : Nat} {v : Int} (h : Ip w lo q (some ⟨g, 0, none⟩) rc SA sc TA tc BA bl bc r) (hk : k < r.regs.length) :
    Ip (w.setCell ⟨g, k, none⟩ (.int .i64 v)) lo q (some ⟨g, 0, none⟩) rc SA sc TA tc BA bl bc { r with regs := r.regs.set k v } ∧ Below lo w (w.setCell ⟨g, k, none⟩ (.int .i64 v)) := by
  have hl : (r.regs.set k v).length = r.regs.length := by simp
  have hgq := h.nr g rfl
  have hlg := (ownS_lt h.v.regs g rfl).1
  have h1 := ownS_put h.v.regs (g := g) rfl (j := k) (by rw [ints_length]; exact hk) (.int .i64 v)
  have hm := (Mods.refl (Is g) w).put k (.int .i64 v)
  refine ⟨⟨?_, ⟨?_, hm.ownS h.v.trace fun j hj hs => h.v.ne g rfl (by unfold Is at hs; rw [hj, hs]), ?_⟩, h.lt⟩, (Below.refl _ _).setCell (by show lo ≤ g; exact hlg) _⟩
  · have := h.row.far (q := ⟨g, k, none⟩) (fun e => hgq e.symm) (.int .i64 v)
    rw [← hl] at this
    exact this
  · rw [ints_set]
    rw [← hl] at h1
    exact h1
  · intro j hj ht
    rw [hl] at hj
    exact h.v.ne j hj ht
theorem own_frozen {e : TypeId} {n s g k : Nat} {v : Value} {xs : List Value} (h : w.ownsRow lo e s v n xs) (hg : v.ownBlock = some g) : w.frozen? ⟨g, k, none⟩ = false := by
  rcases h.2 with ⟨rfl, _⟩ | ⟨g', cap, cur, rfl, _, hh, _⟩
  · cases hg
  · simp only [Value.ownBlock, Option.some.injEq] at hg
    subst hg
    exact Row.frozen (T := e) (cs := cur) hh k
/-- What perform carries: the interpreter and the instruction's box. -/
structure PW (w0 : World) (i : In) (lo q : Nat) (RA : Option Addr) (rc : Nat) (SA : Option Addr) (sc : Nat) (TA : Option Addr) (tc : Nat) (BA : Option Addr) (bl bc : Nat) (r : Rn) (W : World) : Prop where
  ip : Ip W lo q RA rc SA sc TA tc BA bl bc r
  below : Below w0.heap.size w0 W
  bx : Row W w0.heap.size 53 #[.int .i64 i.op, .int .i64 i.d, .int .i64 i.a, .int .i64 i.b, .int .i64 i.imm]
theorem PW.next {w0 : World} {i : In} (hp : PW w0 i lo q RA rc SA sc TA tc BA bl bc r w) (hb : Below w.heap.size w w') : PW w0 i lo q RA rc SA sc TA tc BA bl bc r w' := ⟨hp.ip.next hb, hp.below.trans (hb.mono hp.below.size), hp.bx.below hb hp.bx.lt⟩
theorem PW.drewN {w0 : World} {i : In} (hp : PW w0 i lo q RA rc SA sc TA tc BA bl bc r w) (n : Nat) : PW w0 i lo q RA rc SA sc TA tc BA bl bc r (w.drewN n) := hp.next (blw_drewN (Below.refl _ _) n)
theorem PW.drew {w0 : World} {i : In} (hp : PW w0 i lo q RA rc SA sc TA tc BA bl bc r w) : PW w0 i lo q RA rc SA sc TA tc BA bl bc r w.drew := hp.drewN 1
theorem reg_cell {g k : Nat} (h : Ip w lo q (some ⟨g, 0, none⟩) rc SA sc TA tc BA bl bc r) (hk : k < r.regs.length) : w.cell? ⟨g, k, none⟩ = some (.int .i64 (rg r.regs (k : Int))) := by
  obtain ⟨g', e, hc⟩ := regs_at h.v.regs hk
  injection e with e
  injection e with e _ _
  subst e
  exact hc
theorem PW.cells {w0 : World} {g a b : Nat} {op d imm : Int} (hp : PW w0 ⟨op, d, (a : Int), (b : Int), imm⟩ lo q (some ⟨g, 0, none⟩) rc SA sc TA tc BA bl bc r w) (ha : a < r.regs.length) (hb : b < r.regs.length) :
    PW w0 ⟨op, d, (a : Int), (b : Int), imm⟩ lo q (some ⟨g, 0, none⟩) rc SA sc TA tc BA bl bc r w ∧ w.cell? ⟨w0.heap.size, 0, none⟩ = some (.int .i64 op) ∧ w.cell? ⟨w0.heap.size, 2, none⟩ = some (.int .i64 (a : Int)) ∧ w.cell? ⟨w0.heap.size, 3, none⟩ = some (.int .i64 (b : Int)) ∧ w.cell? ⟨w0.heap.size, 4, none⟩ = some (.int .i64 imm) ∧ w.cell? ⟨q, 4, none⟩ = some (.slice (some ⟨g, 0, none⟩) r.regs.length rc) ∧
    w.cell? ⟨g, a, none⟩ = some (.int .i64 (rg r.regs (a : Int))) ∧ w.cell? ⟨g, b, none⟩ = some (.int .i64 (rg r.regs (b : Int))) :=
  ⟨hp, hp.bx.cell 0, hp.bx.cell 2, hp.bx.cell 3, hp.bx.cell 4, hp.ip.row.cell 4, reg_cell hp.ip ha, reg_cell hp.ip hb⟩
end

set_option maxRecDepth 100000 in
set_option maxHeartbeats 4000000 in
theorem op_any (i : In) (r : Rn) (lo q : Nat) (RA SA TA BA : Option Addr) (rc sc tc bl bc : Nat) (w : World) (hI : Ip w lo q RA rc SA sc TA tc BA bl bc r) (h17 : ¬ i.op = 17) (ha0 : 0 ≤ i.a) (ha1 : i.a < r.regs.length) (hd0 : 0 ≤ i.d) (hd1 : i.d < r.regs.length) (hb0 : 0 ≤ i.b) (hb1 : i.b < r.regs.length) (hw : ∀ v ∈ r.regs, InI v) (hp : r.pos ≤ 1000000) (hst : r.steps ≤ 1000000) (hrl : r.regs.length ≤ 1000000) :
    Calls Try.prog 29 #[.pointer (some ⟨q, 0, none⟩), .agg #[.int .i64 i.op, .int .i64 i.d, .int .i64 i.a, .int .i64 i.b, .int .i64 i.imm]] w fun e w' => e = .returned (.tuple #[]) ∧ IpP w lo q SA sc BA bl bc (perf i r) w' := by
  have hbl0 := (Below.refl w.heap.size w).alloc (Nat.le_refl _) (.cells #[.int .i64 i.op, .int .i64 i.d, .int .i64 i.a, .int .i64 i.b, .int .i64 i.imm] 53)
  have hG : PW w i lo q RA rc SA sc TA tc BA bl bc r (w.alloc (.cells #[.int .i64 i.op, .int .i64 i.d, .int .i64 i.a, .int .i64 i.b, .int .i64 i.imm] 53)) := ⟨hI.next hbl0, hbl0, Row.new _ _ _⟩
  have hqw : q < w.heap.size := hI.row.lt
  have hlq := hI.lt
  have hxa := hw _ (rg_mem ha0 ha1)
  have hxb := hw _ (rg_mem hb0 hb1)
  obtain ⟨a, ha⟩ := Int.eq_ofNat_of_zero_le ha0
  obtain ⟨b, hb⟩ := Int.eq_ofNat_of_zero_le hb0
  obtain ⟨d, hd⟩ := Int.eq_ofNat_of_zero_le hd0
  obtain ⟨op, id, ia, ib, imm⟩ := i
  obtain ⟨st, blk, pos, val, regs, tr, steps⟩ := r
  dsimp only at *
  subst ha
  subst hb
  subst hd
  have han : a < regs.length := by omega
  have hbn : b < regs.length := by omega
  have hdn : d < regs.length := by omega
  have e17 : (op == 17) = false := by simp [h17]
  have HX : Hid (perf ⟨op, (d : Int), (a : Int), (b : Int), imm⟩ ⟨st, blk, pos, val, regs, tr, steps⟩ = if evo op (rg regs (b : Int)) = true then ⟨st, blk, pos + 1, val, regs.set d (ev op (rg regs (a : Int)) (rg regs (b : Int)) imm), tr, steps + 1⟩ else ⟨2, blk, pos, val, regs, tr, steps⟩) := by
    rw [Hid, perf, if_neg h17]
    rfl
  clear hI ha0 ha1 hb0 hb1 hd0 hd1 hw h17
  obtain ⟨g, rfl, _⟩ := regs_at hG.ip.v.regs han
  have hgc := fun W (h : PW w ⟨op, (d : Int), (a : Int), (b : Int), imm⟩ lo q (some ⟨g, 0, none⟩) rc SA sc TA tc BA bl bc ⟨st, blk, pos, val, regs, tr, steps⟩ W) => PW.cells h han hbn
  dsimp only at hgc
  have HGC := Lib.hid hgc
  clear hgc
  have HBL := Lib.hid hbl0
  clear hbl0
  go_enter Try.func29, Try.ntmps29
  go_upto_region 1 with fail
  generalize w.alloc (.cells #[.int .i64 op, .int .i64 (d : Int), .int .i64 (a : Int), .int .i64 (b : Int), .int .i64 imm] 53) = W0 at *
  have d0 := hG.bx.cell 0
  simp only [List.getElem?_toArray, List.getElem?_cons_zero] at d0
  obtain ⟨_, s1, s2, s3, s4, s5, s6, s7⟩ := HGC.out _ hG
  have C1 := Lib.hid fun W (h : PW w ⟨op, (d : Int), (a : Int), (b : Int), imm⟩ lo q (some ⟨g, 0, none⟩) rc SA sc TA tc BA bl bc ⟨st, blk, pos, val, regs, tr, steps⟩ W) => (eval_any op (rg regs (a : Int)) (rg regs (b : Int)) imm W hxa hxb).mono fun e w' ⟨he, hb⟩ => (⟨he, h.next hb⟩ : e = _ ∧ PW w ⟨op, (d : Int), (a : Int), (b : Int), imm⟩ lo q (some ⟨g, 0, none⟩) rc SA sc TA tc BA bl bc ⟨st, blk, pos, val, regs, tr, steps⟩ w')
  have hgq : ¬ g = q := hG.ip.nr g rfl
  clear HBL
  generalize hV : rg regs (a : Int) = x at *
  generalize hY : rg regs (b : Int) = y at *
  generalize hE : ev op x y imm = v at *
  generalize hO : evo op y = ok at *
  have HV := Lib.hid (And.intro hV hY)
  clear hV hY hE hO hxa hxb
  go_upto_region 3 with fail
  go_region_held3 (fun w' => PW w ⟨op, (d : Int), (a : Int), (b : Int), imm⟩ lo q (some ⟨g, 0, none⟩) rc SA sc TA tc BA bl bc ⟨st, blk, pos, val, regs, tr, steps⟩ w' ∧ w'.cell? ⟨w.heap.size, 0, none⟩ = some (.int .i64 op) ∧ w'.cell? ⟨w.heap.size, 2, none⟩ = some (.int .i64 (a : Int)) ∧ w'.cell? ⟨w.heap.size, 3, none⟩ = some (.int .i64 (b : Int)) ∧ w'.cell? ⟨w.heap.size, 4, none⟩ = some (.int .i64 imm) ∧ w'.cell? ⟨q, 4, none⟩ = some (.slice (some ⟨g, 0, none⟩) regs.length rc) ∧ w'.cell? ⟨g, a, none⟩ = some (.int .i64 x) ∧ w'.cell? ⟨g, b, none⟩ = some (.int .i64 y)) (first | exact HGC.out _ hG | exact HGC.out _ hG.drew | exact HGC.out _ (hG.drewN _)) (first
    | (go_at_call 38; go_must ((with_reducible refine (C1.out _ (by first | exact hG | exact hG.drew | exact hG.drewN _)).mono ?_); rintro e W3 ⟨rfl, hG⟩))
    )
  have hrc := reg_cell hG.ip hdn
  have hrf := own_frozen hG.ip.v.regs (g := g) (k := d) rfl
  have f0 := hG.ip.row.cell 0; have f4 := hG.ip.row.cell 4; have b1 := hG.bx.cell 1; have r0 := hG.ip.row.frozen 0
  simp only [List.getElem?_toArray, List.getElem?_cons_zero, List.getElem?_cons_succ] at f0 f4 b1
  have HG := Lib.hid hG
  clear hG s1 s2 s3 s4 s5 s6 s7 d0 C1 HGC
  cases ok
  · have hX := HX.out
    rw [if_neg (by decide)] at hX
    have HX2 := Lib.hid hX
    clear HX hX
    go_wp2
    (try simp only [Exit.inBlock, Exit.then])
    refine bodyPost_ret (v := .tuple #[]) (results_none rfl _ _ _) rfl ?_
    rw [HX2.out]
    exact ⟨rfl, _, _, _, _, ⟨HG.out.ip.row.put 0 _, ⟨(vput HG.out.ip 0 _).regs, (vput HG.out.ip 0 _).trace, HG.out.ip.v.ne⟩, hlq⟩, (HG.out.below.mono (by omega)).setCell (by show lo ≤ q; omega) _⟩
  · have hX := HX.out
    rw [if_pos rfl] at hX
    have HX2 := Lib.hid hX
    clear HX hX
    go_upto_region 6 with fail
    go_region
    obtain ⟨hI4, hb4⟩ := HG.out.ip.setreg (v := v) hdn
    have hI5 := hI4.drew
    have hb5 := Below.drew hb4
    have f2 := hI5.row.cell 2; have f7 := hI5.row.cell 7; have r2 := hI5.row.frozen 2; have r7 := hI5.row.frozen 7
    simp only [List.getElem?_toArray, List.getElem?_cons_zero, List.getElem?_cons_succ] at f2 f7
    have HI5 := Lib.hid (And.intro hI5 ((HG.out.below.mono (Nat.le_of_lt (Nat.lt_of_le_of_lt hlq hqw))).trans hb5))
    clear hI4 hb4 hI5 hb5 hrc hrf f0 f4 b1 r0 HG
    generalize (W3.setCell ⟨g, d, none⟩ (.int .i64 v)).drew = W4 at *
    go_wp2
    go_end0
    rw [HX2.out]
    exact ⟨rfl, _, _, _, _, HI5.out.1.tick, Below.put27 HI5.out.2 hlq _ _⟩

/-- Performing an instruction of a valid function. -/
theorem perf_any (i : In) (r : Rn) (lo q : Nat) (RA SA TA BA : Option Addr) (rc sc tc bl bc : Nat) (w : World) (hI : Ip w lo q RA rc SA sc TA tc BA bl bc r) (hok : InOk r.regs.length i) (hw : ∀ v ∈ r.regs, InI v) (hp : r.pos ≤ 1000000) (hst : r.steps ≤ 1000000) (htr : r.trace.length ≤ 1000000) (hrl : r.regs.length ≤ 1000000) :
    Calls Try.prog 29 #[.pointer (some ⟨q, 0, none⟩), .agg #[.int .i64 i.op, .int .i64 i.d, .int .i64 i.a, .int .i64 i.b, .int .i64 i.imm]] w fun e w' => e = .returned (.tuple #[]) ∧ IpP w lo q SA sc BA bl bc (perf i r) w' := by
  obtain ⟨_, ha0, ha1, h17 | ⟨h17, hd0, hd1, hb0, hb1⟩⟩ := hok
  · exact emit_any i r lo q RA SA TA BA rc sc tc bl bc w hI h17 ha0 ha1 hp hst htr hrl
  · exact op_any i r lo q RA SA TA BA rc sc tc bl bc w hI h17 ha0 ha1 hd0 hd1 hb0 hb1 hw hp hst hrl

end Go.Proofs.Ytfkknebjhcafhaa
