/-
  The visitor's edge; Implies of lists of any size.
-/
import Derived.Test.YtcoehkphdfejjaaGreatCkVis
import Derived.Test.YtcoehkphdfejjaaGreatPk3
namespace Go.Proofs.YtcoehkphdfejjaaGreat
open Go.RowKit
set_option linter.unusedVariables false
set_option linter.unusedSimpArgs false

set_option maxRecDepth 100000 in
set_option maxHeartbeats 4000000 in
theorem pimplies_big {w : World} {A A' : Option Addr} {c c' : Nat} {l r : List Pr} (h : Sees w w.heap.size A (prs l)) (k : Sees w w.heap.size A' (prs r)) (hm : r.length ≤ 1000000) (hm' : l.length ≤ 1000000) (hc : l.length ≤ c) (hcm : c ≤ maxLen) (hl : Srt l) (hr : Srt r) :
    Calls Tryz.prog 49 #[.slice A l.length c, .slice A' r.length c'] w fun e w' => e = .returned (impR (misP r l)) ∧ Below w.heap.size w w' := by
  have hR := Row.new w 89 #[.int .i64 0, .int .i64 0]
  have hb := (Below.refl w.heap.size w).alloc (Nat.le_refl _) (prObj 0 0)
  have C := Lib.hid (pmissing_any w.heap.size A' A r l c' c _ (k.below hb) (h.below hb) hb.size hm hm' hc hcm hr hl)
  have HWB := Lib.hid hb
  have HSZ := Lib.hid (show w.heap.size ≤ (w.alloc (prObj 0 0)).heap.size by simp)
  have hlt := hR.lt
  clear hb h k hl hr hm hm' hc hcm
  obtain ⟨o, ho⟩ : ∃ z, z = misP r l := ⟨_, rfl⟩
  rw [← ho] at C ⊢
  clear ho
  generalize l.length = ll at *
  generalize r.length = lr at *
  go_enter Tryz.func49, Tryz.ntmps49
  go_upto_region 1 with fail
  generalize (w.alloc (.cells #[.int .i64 0, .int .i64 0] 89)) = W0 at *
  rcases o with _ | ⟨x1, x2⟩
  · dsimp only [mres] at C
    go_wp2_with fail
    refine C.out.mono ?_
    rintro e W1 ⟨rfl, hb⟩
    have HB1 := Lib.hid (HWB.out.trans (hb.mono HSZ.out))
    have hR1 := (hR.below hb hlt).alloc (prObj 0 0)
    have r0 := (hR.below hb hlt).cell 0
    have r1 := (hR.below hb hlt).cell 1
    have q0 := (hR.below hb hlt).frozen 0
    have q1 := (hR.below hb hlt).frozen 1
    simp only [List.getElem?_toArray, List.getElem?_cons_zero, List.getElem?_cons_succ] at r0 r1
    have hz : w.heap.size < W1.heap.size := Nat.lt_of_lt_of_le hlt hb.size
    clear hR hR1 hb C
    go_wp2
    (try simp only [Exit.inBlock, Exit.then])
    refine bodyPost_ret (v := .tuple #[.agg #[.int .i64 0, .int .i64 0], .int .i64 0]) ?_ rfl ⟨rfl, ?_⟩
    · rw [results_cell_tmp rfl]
      go_simp
    · have hb9 := (HB1.out.setCell (p := ⟨w.heap.size, 0, none⟩) (Nat.le_refl _) (.int .i64 0)).setCell (p := ⟨w.heap.size, 1, none⟩) (Nat.le_refl _) (.int .i64 0)
      exact hb9.alloc hb9.size _
  · dsimp only [mres] at C
    go_wp2_with fail
    refine C.out.mono ?_
    rintro e W1 ⟨rfl, hb⟩
    have HB1 := Lib.hid (HWB.out.trans (hb.mono HSZ.out))
    have r0 := (hR.below hb hlt).cell 0
    have r1 := (hR.below hb hlt).cell 1
    have q0 := (hR.below hb hlt).frozen 0
    have q1 := (hR.below hb hlt).frozen 1
    simp only [List.getElem?_toArray, List.getElem?_cons_zero, List.getElem?_cons_succ] at r0 r1
    have hz : w.heap.size < W1.heap.size := Nat.lt_of_lt_of_le hlt hb.size
    clear hR hb C
    go_wp2
    (try simp only [Exit.inBlock, Exit.then])
    refine bodyPost_ret (v := .tuple #[.agg #[.int .i64 x1, .int .i64 x2], .int .i64 22]) ?_ rfl ⟨rfl, ?_⟩
    · rw [results_cell_tmp rfl]
      go_simp
    · have hb9 := (HB1.out.setCell (p := ⟨w.heap.size, 0, none⟩) (Nat.le_refl _) (.int .i64 x1)).setCell (p := ⟨w.heap.size, 1, none⟩) (Nat.le_refl _) (.int .i64 x2)
      exact hb9.alloc hb9.size _

section
variable {w W : World} {p : Nat} {A1 : Option Addr} {k1 : Nat} {A2 : Option Addr} {k2 : Nat} {A3 : Option Addr} {k3 : Nat} {c : Ct}{r : Rp} {A : Option Addr} {cc : Nat} {out : List Pr}

set_option maxRecDepth 100000 in
set_option maxHeartbeats 4000000 in
theorem ckedge_any (h : VI w p A1 k1 A2 k2 A3 k3 c r W) (hpl : PL w (.slice A out.length cc) out W) (i k tt : Nat) (ht : tt < c.inv.length) (hl : (c.i tt).length ≤ 1000) (hsr : Srt (c.i tt)) (hso : Srt out) (hol : out.length ≤ 100000) (hs : r.steps ≤ 10000000000) (he : r.edges ≤ 1000) (hn40 : c.inv.length ≤ 40) :
    Calls Tryz.prog 28 #[.pointer (some ⟨p, 0, none⟩), .int .i64 (i : Int), .int .i64 (k : Int), .slice A out.length cc, .int .i64 (tt : Int)] W (MvP w p A1 k1 A2 k2 A3 k3 c (edgeR c out i (tt : Int) k r) (misP (c.i tt) out).isNone W) := by
  obtain ⟨b, o, Ai, ci, rfl, hb, hc, hci, hcm, hsi⟩ := h.see.inv.at_ ht
  have hER : edgeR c out i (tt : Int) k r = passR ⟨r.err, r.blk, r.at_, r.blocks, r.edges + 1, r.steps + 1 + out.length + (c.i tt).length, r.largest⟩ (if misP (c.i tt) out = none then 0 else 22) i k := by
    unfold edgeR passR
    rw [Int.toNat_natCast]
    by_cases h9 : misP (c.i tt) out = none
    · rw [if_pos h9, if_pos h9, if_pos rfl]
    · rw [if_neg h9, if_neg h9, if_neg (by decide)]
  rw [hER]
  clear hER
  rw [Ct.i_lt ht] at hl hsr ⊢
  have hbz := h.blw.size
  have hpz := h.lt
  obtain ⟨Ao, co, eo, ho1, ho2⟩ := hpl.slice
  injection eo with eo1 eo2 eo3
  subst eo1 eo3
  have C := fun (V : World) (hV : Below w.heap.size W V) (hP : PL w (.slice A out.length cc) out V) => pimplies_big (hP.sees) ((hsi.below hV).more (Nat.le_trans h.blw.size hV.size)) (c' := ci) (by omega) (by omega) ho1 ho2 hso hsr
  obtain ⟨nw, hnw⟩ : ∃ z, z = c.inv.length := ⟨_, rfl⟩
  have ht0 : (tt : Int) < (nw : Int) := by omega
  rw [← hnw] at hn40
  generalize c.inv[tt] = l at *
  obtain ⟨li, hli⟩ : ∃ z, z = l.length := ⟨_, rfl⟩
  rw [← hli] at C hl hc ⊢
  obtain ⟨mo, hmo⟩ : ∃ z, z = misP l out := ⟨_, rfl⟩
  rw [← hmo] at C ⊢
  obtain ⟨lo, hlo⟩ : ∃ z, z = out.length := ⟨_, rfl⟩
  rw [← hlo] at C hol hpl ⊢
  have C := Lib.hid C
  obtain ⟨er, her⟩ : ∃ z : Int, z = if mo = none then 0 else 22 := ⟨_, rfl⟩
  obtain ⟨ok, hok⟩ : ∃ z : Bool, z = mo.isNone := ⟨_, rfl⟩
  rw [← her, ← hok]
  have HER := Lib.hid her
  have HOK := Lib.hid hok
  clear her hok
  obtain ⟨r1, hr1⟩ : ∃ z : Rp, z = ⟨r.err, r.blk, r.at_, r.blocks, r.edges + 1, r.steps, r.largest⟩ := ⟨_, rfl⟩
  obtain ⟨r2, hr2⟩ : ∃ z : Rp, z = ⟨r.err, r.blk, r.at_, r.blocks, r.edges + 1, r.steps + 1 + lo + li, r.largest⟩ := ⟨_, rfl⟩
  rw [← hr2]
  have HV := Lib.hid h
  have HV1 : Hid (VI w p A1 k1 A2 k2 (some ⟨b, o, none⟩) k3 c r1 (W.setCell ⟨p, 12, none⟩ (.int .i64 ((r.edges : Int) + 1)))) := HV.out.put r1 12 _ (by rw [hr1]; simp)
  have HV2 : Hid (VI w p A1 k1 A2 k2 (some ⟨b, o, none⟩) k3 c r2 ((W.setCell ⟨p, 12, none⟩ (.int .i64 ((r.edges : Int) + 1))).setCell ⟨p, 13, none⟩ (.int .i64 ((r.steps : Int) + (1 + (lo : Int) + (li : Int)))))) := HV1.out.put r2 13 _ (by rw [hr1, hr2]; simp; omega)
  have hm2 := ((Mods.refl (Is p) W).put 12 (.int .i64 ((r.edges : Int) + 1))).put 13 (.int .i64 ((r.steps : Int) + (1 + (lo : Int) + (li : Int))))
  have HPL := Lib.hid (hpl.put_at HV.out.row (by decide) hpz hm2)
  have HBW : Hid (Below w.heap.size W ((W.setCell ⟨p, 12, none⟩ (.int .i64 ((r.edges : Int) + 1))).setCell ⟨p, 13, none⟩ (.int .i64 ((r.steps : Int) + (1 + (lo : Int) + (li : Int)))))) := hm2.below hbz fun k hk => by have : k = p := hk; omega
  have HM := Lib.hid hm2
  clear h hsi hmo hr1 hr2 hli hlo hpl hm2 hso hsr HV1 ho1
  have v0 := HV.out.row.cell 0; have v1 := HV.out.row.cell 1; have v2 := HV.out.row.cell 2; have v3 := HV.out.row.cell 3
  have v4 := HV.out.row.cell 4; have v5 := HV.out.row.cell 5; have v6 := HV.out.row.cell 6; have v7 := HV.out.row.cell 7
  have v8 := HV.out.row.cell 8; have v9 := HV.out.row.cell 9; have v10 := HV.out.row.cell 10; have v11 := HV.out.row.cell 11
  have v12 := HV.out.row.cell 12; have v13 := HV.out.row.cell 13; have v14 := HV.out.row.cell 14
  have vf := fun k => HV.out.row.frozen k
  simp only [List.getElem?_toArray, List.getElem?_cons_zero, List.getElem?_cons_succ] at v0 v1 v2 v3 v4 v5 v6 v7 v8 v9 v10 v11 v12 v13 v14
  have vf8 := vf 8; have vf9 := vf 9; have vf10 := vf 10; have vf11 := vf 11; have vf12 := vf 12; have vf13 := vf 13; have vf14 := vf 14
  clear vf
  rw [← hnw] at v7
  go_enter Tryz.func28, Tryz.ntmps28
  go_upto_region 4 with fail
  clear v0 v1 v2 v3 v4 v5 v6 v7 v8 v9 v10 v11 v12 v13 v14 vf8 vf9 vf10 vf11 vf12 vf13 vf14
  clear hc HV
  generalize ((W.setCell ⟨p, 12, none⟩ (.int .i64 ((r.edges : Int) + 1))).setCell ⟨p, 13, none⟩ (.int .i64 ((r.steps : Int) + (1 + (lo : Int) + (li : Int))))) = W1 at *
  go_wp2_with fail
  refine (C.out _ HBW.out HPL.out).mono ?_
  rintro e W2 ⟨rfl, hb2⟩
  have HV3 := Lib.hid (HV2.out.next (hb2.mono (Nat.le_refl _)))
  have HM3 := Lib.hid (HM.out.trans (Mods.of_below hb2))
  clear hb2 C HV2 HM HBW HPL
  rcases mo with _ | ⟨x1, x2⟩
  · dsimp only [impR]
    go_upto_region 5 with fail
    have HV4 := Lib.hid (HV3.out.alloc (prObj 0 0))
    have HM4 := Lib.hid (HM3.out.alloc (prObj 0 0))
    clear HV3 HM3
    generalize (W2.alloc (.cells #[.int .i64 0, .int .i64 0] 89)) = W3 at *
    have C2 := Lib.hid (ckpasses_any HV4.out 0 i k)
    have HE : Hid (er = 0) := HER.out
    have HO : Hid (ok = true) := HOK.out
    go_wp2_with fail
    refine C2.out.mono ?_
    rintro e W4 ⟨rfl, hv4, hm4⟩
    have HV5 := Lib.hid hv4
    have HM5 := Lib.hid (HM4.out.trans hm4)
    clear hv4 hm4 HV4 HM4 C2
    go_wp2
    go_ret
    rw [HE.out, HO.out]
    exact ⟨rfl, HV5.out, HM5.out⟩
  · dsimp only [impR]
    go_upto_region 5 with fail
    have HV4 := Lib.hid (HV3.out.alloc (prObj x1 x2))
    have HM4 := Lib.hid (HM3.out.alloc (prObj x1 x2))
    clear HV3 HM3
    generalize (W2.alloc (.cells #[.int .i64 x1, .int .i64 x2] 89)) = W3 at *
    have C2 := Lib.hid (ckpasses_any HV4.out 22 i k)
    have HE : Hid (er = 22) := HER.out
    have HO : Hid (ok = false) := HOK.out
    go_wp2_with fail
    refine C2.out.mono ?_
    rintro e W4 ⟨rfl, hv4, hm4⟩
    have HV5 := Lib.hid hv4
    have HM5 := Lib.hid (HM4.out.trans hm4)
    clear hv4 hm4 HV4 HM4 C2
    go_wp2
    go_ret
    rw [HE.out, HO.out]
    exact ⟨rfl, HV5.out, HM5.out⟩

end

end Go.Proofs.YtcoehkphdfejjaaGreat
