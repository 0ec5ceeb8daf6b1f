/-
  Copy, Move and Define of the program.
-/
import Derived.Test.YtcnkkpnfijihbaaPsAt0
import Derived.Test.YtcnkkpnfijihbaaPsClone
import Derived.Test.YtcnkkpnfijihbaaTrMath
namespace Go.Proofs.Ytcnkkpnfijihbaa
open Go.RowKit
set_option linter.unusedVariables false

/-- A closure over two cells that renames a pair. -/
def RenC (g : Nat) (pb qb : Nat) (f : Pr → Bool) (h : Pr → Pr) (w : World) : Prop :=
  ∀ (x : Pr) W, Below w.heap.size w W → Calls Try.prog g #[.agg #[.int .i64 x.1, .int .i64 x.2], .pointer (some ⟨pb, 0, none⟩), .pointer (some ⟨qb, 0, none⟩)] W fun e w' => e = .returned (.tuple #[.agg #[.int .i64 (h x).1, .int .i64 (h x).2], .bool (f x)]) ∧ Below W.heap.size W w'

set_option maxRecDepth 100000 in
set_option maxHeartbeats 4000000 in
theorem addRen_any (f : Pr → Bool) (h : Pr → Pr) (g pb qb : Nat) (B : Nat) (A : Option Addr) (l : List Pr) (c : Nat) (w : World) (hs : Sees w B A (prs l)) (hB : B ≤ w.heap.size) (hm : l.length ≤ 1000000) (hsl : Srt l) (hsr : Srt ((l.filter f).map h))
    (hK : ∀ args W, (callFunc g args).run Try.prog W = .ok (.enter g args) W) (hf : RenC g pb qb f h w) :
    Calls Try.prog 22 #[.slice A l.length c, .func (.func g) #[] #[.pointer (some ⟨pb, 0, none⟩), .pointer (some ⟨qb, 0, none⟩)]] w fun e w' => ∃ v, e = .returned v ∧ PL w v (addR l f h) w' := by
  obtain ⟨i0, hi0, hz0, hz1, hz2⟩ := info_pr
  have HF := Lib.hid hf
  have HS := Lib.hid hs
  have HSL := Lib.hid hsl
  have HSR := Lib.hid hsr
  clear hf hsl hsr
  go_enter Try.func22, Try.ntmps22
  go_wp2
  go_loopg [5, 12] l.length (fun g v5 v12 wr => ∃ k : Nat, k + g = l.length ∧ v12 = .int .i64 k ∧ Hid (PL w v5 (((l.take k).filter f).map h) wr))
  case atStart => exact ⟨0, by omega, by go_num, PL.nil w⟩
  case round =>
    obtain ⟨k, hg, rfl, HP⟩ := hrel
    by_cases hlt : k < l.length
    · have hol : (((l.take k).filter f).map h).length ≤ 1000000 := by rw [List.length_map]; exact Nat.le_trans (List.length_filter_le _ _) (by simp; omega)
      have HE : Hid (((l.take (k + 1)).filter f).map h = ((l.take k).filter f).map h ++ if f l[k] then [h l[k]] else []) := by
        show _ = _
        rw [List.take_succ_eq_append_getElem hlt, List.filter_append, List.map_append]
        cases hh : f l[k] <;> simp [hh]
      generalize ((l.take k).filter f).map h = o at *
      obtain ⟨b1, o1, rfl, hb, hc0, hc1⟩ := sees_pair hs hlt
      have f0 := (HP.out.blw.cell (p := ⟨b1, _, none⟩) (by show b1 < _; omega)).trans hc0
      have f1 := (HP.out.blw.cell (p := ⟨b1, _, none⟩) (by show b1 < _; omega)).trans hc1
      have hkz : (k : Int) < (l.length : Int) := by omega
      generalize l[k] = x at *
      obtain ⟨x1, x2⟩ := x
      dsimp only at f0 f1
      clear hc0 hc1 hs HS
      go_upto_region 5 with fail
      have HX := Lib.hid (PX.of HP.out x1 x2)
      clear f0 f1 HP
      generalize (wr.alloc (.cells #[.int .i64 x1, .int .i64 x2] 35)) = W1 at *
      generalize wr.heap.size = rb at *
      obtain ⟨p0, p1⟩ := HX.out.cells
      have C1 := Lib.hid (HF.out (x1, x2) W1 HX.out.pl.blw)
      dsimp only at C1
      generalize f (x1, x2) = bb at *
      generalize h (x1, x2) = y at *
      obtain ⟨y1, y2⟩ := y
      dsimp only at C1
      cases bb
      · go_wp2_with fail
        refine C1.out.mono ?_
        rintro e W2 ⟨rfl, hb2⟩
        have HP2 := Lib.hid ((HX.out.pl.next hb2).alloc (prObj y1 y2))
        clear p0 p1 hb2 HX C1
        go_wp2
        go_roundg (l.length - (k + 1))
        case measure => omega
        case rel => exact ⟨k + 1, by omega, by go_num, by show PL _ _ _ _; rw [HE.out]; simpa using HP2.out⟩
      · go_wp2_with fail
        refine C1.out.mono ?_
        rintro e W2 ⟨rfl, hb2⟩
        have HP2 := Lib.hid ((HX.out.pl.next hb2).alloc (prObj y1 y2))
        have hY := Row.new W2 35 #[.int .i64 y1, .int .i64 y2]
        clear p0 p1 hb2 HX C1
        go_upto_region 7 with fail
        generalize (W2.alloc (.cells #[.int .i64 y1, .int .i64 y2] 35)) = W3 at *
        have y0 := hY.cell 0
        have z0 := hY.cell 1
        simp only [List.getElem?_toArray, List.getElem?_cons_zero, List.getElem?_cons_succ] at y0 z0
        clear hY
        have hown := (HP2.out.alloc (prObj y1 y2)).own
        have hnew := new_sees W3 y1 y2
        go_wp2_with (at_builtin; refine wpList_append_any _ rfl (.tmp 23) (.tmp 25) 22 rfl _ 35 i0 (.agg #[.int .i64 0, .int .i64 0]) 2 16 Try.underlying22 hi0 hz0 hz1 hz2 rfl (by decide) _ _ _ rfl hown (W3.heap.size + 1) _ 1 1 _ rfl hnew rfl (prs_one _) ?c1 ?c2 ?c3 ?_)
        case c1 => have := hol; unfold maxLen; omega
        case c2 => have := hol; omega
        case c3 => have := HP2.out.blw.size; simp; omega
        intro v3 W4 ho2 hg2 hb2
        have HP4 := Lib.hid (HP2.out.push y1 y2 (by first | rfl | simp) ho2 hg2)
        clear ho2 hg2 hb2 hown hnew
        go_wp2
        go_roundg (l.length - (k + 1))
        case measure => omega
        case rel => exact ⟨k + 1, by omega, by go_num, by show PL _ _ _ _; rw [HE.out]; exact HP4.out⟩
    · have hk2 : l.take k = l := List.take_of_length_le (by omega)
      rw [hk2] at HP
      have hkz : ¬ (k : Int) < (l.length : Int) := by omega
      have hrl : ((l.filter f).map h).length ≤ 1000000 := by rw [List.length_map]; exact Nat.le_trans (List.length_filter_le _ _) hm
      have HAR : Hid (addR l f h = mkP (l ++ (l.filter f).map h)) := rfl
      generalize (l.filter f).map h = o at *
      obtain ⟨A5, c5, rfl, hoc, hcm⟩ := HP.out.slice
      have C2 := Lib.hid (punion_any wr.heap.size A A5 l o c c5 wr ((HS.out.below (HP.out.blw.mono hB)).more (by have := HP.out.blw.size; omega)) HP.out.sees (Nat.le_refl _) hm hrl hoc hcm HSL.out HSR.out)
      have HPB := Lib.hid HP.out.blw
      clear hk2 hs HP hoc hcm hrl
      go_wp2_with fail
      refine C2.out.mono ?_
      rintro e W2 ⟨v, rfl, hP⟩
      have HP2 := Lib.hid (hP.base HPB.out)
      clear hP
      go_wp2
      go_ret
      rw [HAR.out]
      exact ⟨_, rfl, HP2.out⟩

set_option maxRecDepth 100000 in
set_option maxHeartbeats 1000000 in
theorem renC_any (d a : Int) (pb qb : Nat) (x : Pr) (W : World) (h0 : W.cell? ⟨pb, 0, none⟩ = some (.int .i64 d)) (h1 : W.cell? ⟨qb, 0, none⟩ = some (.int .i64 a)) :
    Calls Try.prog 24 #[.agg #[.int .i64 x.1, .int .i64 x.2], .pointer (some ⟨pb, 0, none⟩), .pointer (some ⟨qb, 0, none⟩)] W fun e w' => e = .returned (.tuple #[.agg #[.int .i64 d, .int .i64 x.2], .bool (x.1 == a)]) ∧ Below W.heap.size W w' := by
  obtain ⟨x1, x2⟩ := x
  dsimp only
  have HB := Lib.hid (((Below.refl W.heap.size W).alloc (Nat.le_refl _) (prObj x1 x2)).alloc (by simp) (prObj 0 0))
  have a0 : pb < W.heap.size := World.block_lt_of_cell? _ _ h0
  have a1 : qb < W.heap.size := World.block_lt_of_cell? _ _ h1
  have n0 : ¬ pb = W.heap.size + 1 := by omega
  have n1 : ¬ qb = W.heap.size + 1 := by omega
  have n2 : ¬ W.heap.size + 1 = pb := by omega
  have n3 : ¬ W.heap.size + 1 = qb := by omega
  have e0 := (World.cell?_alloc_lt (W.alloc (prObj x1 x2)) (prObj 0 0) ⟨pb, 0, none⟩ (by simp; omega)).trans ((World.cell?_alloc_lt W (prObj x1 x2) ⟨pb, 0, none⟩ a0).trans h0)
  have e1 := (World.cell?_alloc_lt (W.alloc (prObj x1 x2)) (prObj 0 0) ⟨qb, 0, none⟩ (by simp; omega)).trans ((World.cell?_alloc_lt W (prObj x1 x2) ⟨qb, 0, none⟩ a1).trans h1)
  have hR := (Row.new W 35 #[.int .i64 x1, .int .i64 x2]).alloc (prObj 0 0)
  have hQ := Row.new (W.alloc (prObj x1 x2)) 35 #[.int .i64 0, .int .i64 0]
  rw [show (W.alloc (prObj x1 x2)).heap.size = W.heap.size + 1 by simp] at hQ
  clear h0 h1 a0 a1
  go_enter Try.func24, Try.ntmps24
  go_upto_region 1 with fail
  generalize ((W.alloc (.cells #[.int .i64 x1, .int .i64 x2] 35)).alloc (.cells #[.int .i64 0, .int .i64 0] 35)) = W2 at *
  have r0 := hR.cell 0; have r1 := hR.cell 1; have q0 := hQ.cell 0; have q1 := hQ.cell 1; have f0 := hQ.frozen 0; have f1 := hQ.frozen 1
  simp only [List.getElem?_toArray, List.getElem?_cons_zero, List.getElem?_cons_succ] at r0 r1 q0 q1
  clear hR hQ
  go_region
  go_wp2
  (try simp only [Exit.inBlock, Exit.then])
  refine bodyPost_ret (v := .tuple #[.agg #[.int .i64 d, .int .i64 x2], .bool (x1 == a)]) ?_ rfl ⟨rfl, ?_⟩
  · rw [results_cell_tmp rfl]
    go_simp
  · exact (((HB.out.setCell (p := ⟨W.heap.size + 1, 0, none⟩) (by simp) _).setCell (p := ⟨W.heap.size + 1, 1, none⟩) (by simp) _).drew)

set_option maxRecDepth 100000 in
set_option maxHeartbeats 1000000 in
theorem renM_any (d a : Int) (pb qb : Nat) (x : Pr) (W : World) (h0 : W.cell? ⟨pb, 0, none⟩ = some (.int .i64 d)) (h1 : W.cell? ⟨qb, 0, none⟩ = some (.int .i64 a)) :
    Calls Try.prog 26 #[.agg #[.int .i64 x.1, .int .i64 x.2], .pointer (some ⟨pb, 0, none⟩), .pointer (some ⟨qb, 0, none⟩)] W fun e w' => e = .returned (.tuple #[.agg #[.int .i64 x.1, .int .i64 d], .bool (x.2 == a)]) ∧ Below W.heap.size W w' := by
  obtain ⟨x1, x2⟩ := x
  dsimp only
  have HB := Lib.hid (((Below.refl W.heap.size W).alloc (Nat.le_refl _) (prObj x1 x2)).alloc (by simp) (prObj 0 0))
  have a0 : pb < W.heap.size := World.block_lt_of_cell? _ _ h0
  have a1 : qb < W.heap.size := World.block_lt_of_cell? _ _ h1
  have n0 : ¬ pb = W.heap.size + 1 := by omega
  have n1 : ¬ qb = W.heap.size + 1 := by omega
  have n2 : ¬ W.heap.size + 1 = pb := by omega
  have n3 : ¬ W.heap.size + 1 = qb := by omega
  have e0 := (World.cell?_alloc_lt (W.alloc (prObj x1 x2)) (prObj 0 0) ⟨pb, 0, none⟩ (by simp; omega)).trans ((World.cell?_alloc_lt W (prObj x1 x2) ⟨pb, 0, none⟩ a0).trans h0)
  have e1 := (World.cell?_alloc_lt (W.alloc (prObj x1 x2)) (prObj 0 0) ⟨qb, 0, none⟩ (by simp; omega)).trans ((World.cell?_alloc_lt W (prObj x1 x2) ⟨qb, 0, none⟩ a1).trans h1)
  have hR := (Row.new W 35 #[.int .i64 x1, .int .i64 x2]).alloc (prObj 0 0)
  have hQ := Row.new (W.alloc (prObj x1 x2)) 35 #[.int .i64 0, .int .i64 0]
  rw [show (W.alloc (prObj x1 x2)).heap.size = W.heap.size + 1 by simp] at hQ
  clear h0 h1 a0 a1
  go_enter Try.func26, Try.ntmps26
  go_upto_region 1 with fail
  generalize ((W.alloc (.cells #[.int .i64 x1, .int .i64 x2] 35)).alloc (.cells #[.int .i64 0, .int .i64 0] 35)) = W2 at *
  have r0 := hR.cell 0; have r1 := hR.cell 1; have q0 := hQ.cell 0; have q1 := hQ.cell 1; have f0 := hQ.frozen 0; have f1 := hQ.frozen 1
  simp only [List.getElem?_toArray, List.getElem?_cons_zero, List.getElem?_cons_succ] at r0 r1 q0 q1
  clear hR hQ
  go_region
  go_wp2
  (try simp only [Exit.inBlock, Exit.then])
  refine bodyPost_ret (v := .tuple #[.agg #[.int .i64 x1, .int .i64 d], .bool (x2 == a)]) ?_ rfl ⟨rfl, ?_⟩
  · rw [results_cell_tmp rfl]
    go_simp
  · exact (((HB.out.setCell (p := ⟨W.heap.size + 1, 0, none⟩) (by simp) _).setCell (p := ⟨W.heap.size + 1, 1, none⟩) (by simp) _).drew)

set_option maxRecDepth 100000 in
set_option maxHeartbeats 4000000 in
theorem copy_any (B : Nat) (A : Option Addr) (l : List Pr) (c : Nat) (d a : Int) (w : World) (hs : Sees w B A (prs l)) (hB : B ≤ w.heap.size) (hm : l.length ≤ 1000000) (hsl : Srt l) :
    Calls Try.prog 11 #[.slice A l.length c, .int .i64 d, .int .i64 a] w fun e w' => ∃ v, e = .returned v ∧ PL w v (cpP l d a) w' := by
  by_cases hda : d = a
  · obtain rfl := hda
    have hne : (d == d) = true := by simp
    have HB2 := Lib.hid (((Below.refl w.heap.size w).alloc (Nat.le_refl _) (.cells #[.int .i64 d] 3)).alloc (by simp) (.cells #[.int .i64 d] 3))
    have HMN : Hid (cpP l d d = l) := if_pos rfl
    have hR := (Row.new w 3 #[.int .i64 d]).alloc (.cells #[.int .i64 d] 3)
    have hQ := Row.new (w.alloc (.cells #[.int .i64 d] 3)) 3 #[.int .i64 d]
    rw [show (w.alloc (.cells #[.int .i64 d] 3)).heap.size = w.heap.size + 1 by simp] at hQ
    have HL := Lib.hid ((hs.below (HB2.out.mono hB)).more (Nat.le_trans hB HB2.out.size))
    clear hs hsl
    go_enter Try.func11, Try.ntmps11
    go_upto_region 1 with fail
    generalize ((w.alloc (.cells #[.int .i64 d] 3)).alloc (.cells #[.int .i64 d] 3)) = W2 at *
    have r0 := hR.cell 0
    have q0 := hQ.cell 0
    simp only [List.getElem?_toArray, List.getElem?_cons_zero] at r0 q0
    have C1 := Lib.hid (pclone_any W2.heap.size A l c W2 HL.out (Nat.le_refl _) hm)
    clear hR hQ
    go_wp2_with fail
    refine C1.out.mono ?_
    rintro e W3 ⟨v, rfl, hP⟩
    have HP := Lib.hid (hP.base HB2.out)
    clear hP
    go_wp2
    go_ret
    rw [HMN.out]
    exact ⟨_, rfl, HP.out⟩
  · have HN := Lib.hid (show ¬ d = a from hda)
    have hne : (d == a) = false := by simp [hda]
    have HB2 := Lib.hid (((Below.refl w.heap.size w).alloc (Nat.le_refl _) (.cells #[.int .i64 d] 3)).alloc (by simp) (.cells #[.int .i64 a] 3))
    have hR := (Row.new w 3 #[.int .i64 d]).alloc (.cells #[.int .i64 a] 3)
    have hQ := Row.new (w.alloc (.cells #[.int .i64 d] 3)) 3 #[.int .i64 a]
    rw [show (w.alloc (.cells #[.int .i64 d] 3)).heap.size = w.heap.size + 1 by simp] at hQ
    have HL := Lib.hid ((hs.below (HB2.out.mono hB)).more (Nat.le_trans hB HB2.out.size))
    have HSL := Lib.hid hsl
    clear hda hs hsl
    go_enter Try.func11, Try.ntmps11
    go_upto_region 1 with fail
    generalize ((w.alloc (.cells #[.int .i64 d] 3)).alloc (.cells #[.int .i64 a] 3)) = W2 at *
    have r0 := hR.cell 0
    have q0 := hQ.cell 0
    simp only [List.getElem?_toArray, List.getElem?_cons_zero] at r0 q0
    have C1 := Lib.hid (dropV_any W2.heap.size A l c d W2 HL.out (Nat.le_refl _) hm)
    have hfl := List.length_filter_le (fun p : Pr => !(p.1 == d)) l
    have HFS := Lib.hid (HSL.out.filter fun p => !(p.1 == d))
    have HMN : Hid (cpP l d a = addR (l.filter fun p => !(p.1 == d)) (fun p => p.1 == a) (fun p => (d, p.2))) := if_neg HN.out
    generalize (l.filter fun p => !(p.1 == d)) = l2 at *
    have hl2 : l2.length ≤ 1000000 := by omega
    clear hfl
    go_upto_region 3 with fail
    go_wp2_with fail
    refine C1.out.mono ?_
    rintro e W3 ⟨v, rfl, hP⟩
    obtain ⟨A3, c3, rfl, _, _⟩ := hP.slice
    have HQ3 := Lib.hid (hQ.below hP.blw hQ.lt)
    have HR3 := Lib.hid (hR.below hP.blw hR.lt)
    have HP := Lib.hid hP
    clear hP C1 r0 q0 hR hQ
    have C2 := Lib.hid (addRen_any (fun p => p.1 == a) (fun p => (d, p.2)) 24 w.heap.size (w.heap.size + 1) W3.heap.size A3 l2 c3 W3 HP.out.sees (Nat.le_refl _) hl2 HFS.out (ren_srt1 HFS.out d a) (fun args W => enters_of Try.func24 (by kernel_rfl) rfl args W) fun x W hW => renC_any d a w.heap.size (w.heap.size + 1) x W ((hW.cell (p := ⟨_, 0, none⟩) HR3.out.lt).trans (HR3.out.cell 0)) ((hW.cell (p := ⟨_, 0, none⟩) HQ3.out.lt).trans (HQ3.out.cell 0)))
    have r0 := HR3.out.cell 0
    have q0 := HQ3.out.cell 0
    simp only [List.getElem?_toArray, List.getElem?_cons_zero] at r0 q0
    go_wp2_with fail
    refine C2.out.mono ?_
    rintro e W4 ⟨v, rfl, hP⟩
    have HP4 := Lib.hid ((hP.base HP.out.blw).base HB2.out)
    clear hP
    go_wp2
    go_ret
    rw [HMN.out]
    exact ⟨_, rfl, HP4.out⟩

set_option maxRecDepth 100000 in
set_option maxHeartbeats 4000000 in
theorem move_any (B : Nat) (A : Option Addr) (l : List Pr) (c : Nat) (d a : Int) (w : World) (hs : Sees w B A (prs l)) (hB : B ≤ w.heap.size) (hm : l.length ≤ 1000000) (hsl : Srt l) :
    Calls Try.prog 13 #[.slice A l.length c, .int .i64 d, .int .i64 a] w fun e w' => ∃ v, e = .returned v ∧ PL w v (mvP l d a) w' := by
  by_cases hda : d = a
  · obtain rfl := hda
    have hne : (d == d) = true := by simp
    have HB2 := Lib.hid (((Below.refl w.heap.size w).alloc (Nat.le_refl _) (.cells #[.int .i64 d] 28)).alloc (by simp) (.cells #[.int .i64 d] 28))
    have HMN : Hid (mvP l d d = l) := if_pos rfl
    have hR := (Row.new w 28 #[.int .i64 d]).alloc (.cells #[.int .i64 d] 28)
    have hQ := Row.new (w.alloc (.cells #[.int .i64 d] 28)) 28 #[.int .i64 d]
    rw [show (w.alloc (.cells #[.int .i64 d] 28)).heap.size = w.heap.size + 1 by simp] at hQ
    have HL := Lib.hid ((hs.below (HB2.out.mono hB)).more (Nat.le_trans hB HB2.out.size))
    clear hs hsl
    go_enter Try.func13, Try.ntmps13
    go_upto_region 1 with fail
    generalize ((w.alloc (.cells #[.int .i64 d] 28)).alloc (.cells #[.int .i64 d] 28)) = W2 at *
    have r0 := hR.cell 0
    have q0 := hQ.cell 0
    simp only [List.getElem?_toArray, List.getElem?_cons_zero] at r0 q0
    have C1 := Lib.hid (pclone_any W2.heap.size A l c W2 HL.out (Nat.le_refl _) hm)
    clear hR hQ
    go_wp2_with fail
    refine C1.out.mono ?_
    rintro e W3 ⟨v, rfl, hP⟩
    have HP := Lib.hid (hP.base HB2.out)
    clear hP
    go_wp2
    go_ret
    rw [HMN.out]
    exact ⟨_, rfl, HP.out⟩
  · have HN := Lib.hid (show ¬ d = a from hda)
    have hne : (d == a) = false := by simp [hda]
    have HB2 := Lib.hid (((Below.refl w.heap.size w).alloc (Nat.le_refl _) (.cells #[.int .i64 d] 28)).alloc (by simp) (.cells #[.int .i64 a] 28))
    have hR := (Row.new w 28 #[.int .i64 d]).alloc (.cells #[.int .i64 a] 28)
    have hQ := Row.new (w.alloc (.cells #[.int .i64 d] 28)) 28 #[.int .i64 a]
    rw [show (w.alloc (.cells #[.int .i64 d] 28)).heap.size = w.heap.size + 1 by simp] at hQ
    have HL := Lib.hid ((hs.below (HB2.out.mono hB)).more (Nat.le_trans hB HB2.out.size))
    have HSL := Lib.hid hsl
    clear hda hs hsl
    go_enter Try.func13, Try.ntmps13
    go_upto_region 1 with fail
    generalize ((w.alloc (.cells #[.int .i64 d] 28)).alloc (.cells #[.int .i64 a] 28)) = W2 at *
    have r0 := hR.cell 0
    have q0 := hQ.cell 0
    simp only [List.getElem?_toArray, List.getElem?_cons_zero] at r0 q0
    have C1 := Lib.hid (dropL_any W2.heap.size A l c d W2 HL.out (Nat.le_refl _) hm)
    have hfl := List.length_filter_le (fun p : Pr => !(p.2 == d)) l
    have HFS := Lib.hid (HSL.out.filter fun p => !(p.2 == d))
    have HMN : Hid (mvP l d a = addR (l.filter fun p => !(p.2 == d)) (fun p => p.2 == a) (fun p => (p.1, d))) := if_neg HN.out
    generalize (l.filter fun p => !(p.2 == d)) = l2 at *
    have hl2 : l2.length ≤ 1000000 := by omega
    clear hfl
    go_upto_region 3 with fail
    go_wp2_with fail
    refine C1.out.mono ?_
    rintro e W3 ⟨v, rfl, hP⟩
    obtain ⟨A3, c3, rfl, _, _⟩ := hP.slice
    have HQ3 := Lib.hid (hQ.below hP.blw hQ.lt)
    have HR3 := Lib.hid (hR.below hP.blw hR.lt)
    have HP := Lib.hid hP
    clear hP C1 r0 q0 hR hQ
    have C2 := Lib.hid (addRen_any (fun p => p.2 == a) (fun p => (p.1, d)) 26 w.heap.size (w.heap.size + 1) W3.heap.size A3 l2 c3 W3 HP.out.sees (Nat.le_refl _) hl2 HFS.out (ren_srt2 HFS.out d a) (fun args W => enters_of Try.func26 (by kernel_rfl) rfl args W) fun x W hW => renM_any d a w.heap.size (w.heap.size + 1) x W ((hW.cell (p := ⟨_, 0, none⟩) HR3.out.lt).trans (HR3.out.cell 0)) ((hW.cell (p := ⟨_, 0, none⟩) HQ3.out.lt).trans (HQ3.out.cell 0)))
    have r0 := HR3.out.cell 0
    have q0 := HQ3.out.cell 0
    simp only [List.getElem?_toArray, List.getElem?_cons_zero] at r0 q0
    go_wp2_with fail
    refine C2.out.mono ?_
    rintro e W4 ⟨v, rfl, hP⟩
    have HP4 := Lib.hid ((hP.base HP.out.blw).base HB2.out)
    clear hP
    go_wp2
    go_ret
    rw [HMN.out]
    exact ⟨_, rfl, HP4.out⟩

set_option maxRecDepth 100000 in
set_option maxHeartbeats 4000000 in
theorem define_any (B : Nat) (A : Option Addr) (l : List Pr) (c : Nat) (d a : Int) (w : World) (hs : Sees w B A (prs l)) (hB : B ≤ w.heap.size) (hm : l.length ≤ 1000000) (hsl : Srt l) :
    Calls Try.prog 15 #[.slice A l.length c, .int .i64 d, .int .i64 a] w fun e w' => ∃ v, e = .returned v ∧ PL w v (dfP l d a) w' := by
  have C1 := Lib.hid (dropV_any B A l c d w hs hB hm)
  have hfl := List.length_filter_le (fun p : Pr => !(p.1 == d)) l
  have HFS := Lib.hid (hsl.filter fun p => !(p.1 == d))
  have HMN : Hid (dfP l d a = mkP (((l.filter fun p => !(p.1 == d)).filter fun p => !(p.2 == a)) ++ [(d, a)])) := rfl
  generalize (l.filter fun p => !(p.1 == d)) = l2 at *
  have hl2 : l2.length ≤ 1000000 := by omega
  clear hfl hs hsl
  go_enter Try.func15, Try.ntmps15
  go_wp2_with fail
  refine C1.out.mono ?_
  rintro e W1 ⟨v, rfl, hP⟩
  obtain ⟨A1, c1, rfl, _, _⟩ := hP.slice
  have HP1 := Lib.hid hP
  clear hP C1
  have C2 := Lib.hid (dropL_any W1.heap.size A1 l2 c1 a W1 HP1.out.sees (Nat.le_refl _) hl2)
  have hfl := List.length_filter_le (fun p : Pr => !(p.2 == a)) l2
  have HFS3 := Lib.hid (HFS.out.filter fun p => !(p.2 == a))
  generalize (l2.filter fun p => !(p.2 == a)) = l3 at *
  have hl3 : l3.length ≤ 1000000 := by omega
  clear hfl
  go_wp2_with fail
  refine C2.out.mono ?_
  rintro e W2 ⟨v, rfl, hP⟩
  obtain ⟨A2, c2, rfl, _, _⟩ := hP.slice
  have HP2 := Lib.hid hP
  clear hP C2
  have C3 := Lib.hid (padd_any W2.heap.size A2 l3 c2 (d, a) W2 HP2.out.sees (Nat.le_refl _) hl3 HFS3.out)
  dsimp only at C3
  go_wp2_with fail
  refine C3.out.mono ?_
  rintro e W3 ⟨v, rfl, hP⟩
  have HP3 := Lib.hid (hP.base (HP1.out.blw.trans (HP2.out.blw.mono HP1.out.blw.size)))
  clear hP C3
  go_wp2
  go_ret
  rw [HMN.out]
  exact ⟨_, rfl, HP3.out⟩

/-! Over lists that are seen. -/

section
variable {w : World} {A : Option Addr} {n c : Nat} {l : List Pr}

theorem copy_ls (d a : Int) (h : LS w A n c l) (hs : Srt l) (hn : n ≤ 500) : Calls Try.prog 11 #[.slice A n c, .int .i64 d, .int .i64 a] w (PV w (cpP l d a)) := by
  obtain ⟨rfl, _, _, h4, _⟩ := id h
  exact (copy_any w.heap.size A l c d a w h4 (Nat.le_refl _) h.big hs).mono fun _ _ => PV.of (Nat.le_trans (cpP_len _ _ _) (by omega))

theorem move_ls (d a : Int) (h : LS w A n c l) (hs : Srt l) (hn : n ≤ 500) : Calls Try.prog 13 #[.slice A n c, .int .i64 d, .int .i64 a] w (PV w (mvP l d a)) := by
  obtain ⟨rfl, _, _, h4, _⟩ := id h
  exact (move_any w.heap.size A l c d a w h4 (Nat.le_refl _) h.big hs).mono fun _ _ => PV.of (Nat.le_trans (mvP_len _ _ _) (by omega))

theorem define_ls (d a : Int) (h : LS w A n c l) (hs : Srt l) (hn : n ≤ 500) : Calls Try.prog 15 #[.slice A n c, .int .i64 d, .int .i64 a] w (PV w (dfP l d a)) := by
  obtain ⟨rfl, _, _, h4, _⟩ := id h
  exact (define_any w.heap.size A l c d a w h4 (Nat.le_refl _) h.big hs).mono fun _ _ => PV.of (Nat.le_trans (dfP_len _ _ _) (by omega))

end

end Go.Proofs.Ytcnkkpnfijihbaa
