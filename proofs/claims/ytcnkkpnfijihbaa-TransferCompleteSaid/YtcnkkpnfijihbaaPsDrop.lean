/-
  DropV and DropL of the program.
-/
import Derived.Test.YtcnkkpnfijihbaaPsUn
namespace Go.Proofs.Ytcnkkpnfijihbaa
open Go.RowKit
set_option linter.unusedVariables false

set_option maxRecDepth 100000 in
set_option maxHeartbeats 4000000 in
theorem drop_any (f : Pr → Bool) (g pb : Nat) (B : Nat) (A : Option Addr) (l : List Pr) (c : Nat) (w : World) (hs : Sees w B A (prs l)) (hB : B ≤ w.heap.size) (hm : l.length ≤ 1000000)
    (hK : ∀ args W, (callFunc g args).run Try.prog W = .ok (.enter g args) W)
    (hf : ∀ (x : Pr) W, Below w.heap.size w W → Calls Try.prog g #[.agg #[.int .i64 x.1, .int .i64 x.2], .pointer (some ⟨pb, 0, none⟩)] W fun e w' => e = .returned (.bool (f x)) ∧ Grew W w') :
    Calls Try.prog 31 #[.slice A l.length c, .func (.func g) #[] #[.pointer (some ⟨pb, 0, none⟩)]] w fun e w' => ∃ v, e = .returned v ∧ PL w v (l.filter fun p => !f p) w' := by
  obtain ⟨i0, hi0, hz0, hz1, hz2⟩ := info_pr
  obtain ⟨Z, hZ, hmk⟩ := make_pr l.length (by omega)
  have HPZ : Hid (PL w (.slice (some ⟨w.heap.size, 0, none⟩) 0 l.length) [] (w.alloc (.cells Z 35))) := PL.make w hZ (by omega)
  have HF := Lib.hid hf
  clear hZ hf
  go_enter Try.func31, Try.ntmps31
  go_wp2
  generalize (w.alloc (.cells Z 35)) = W0 at *
  go_loopg [5, 13] l.length (fun g v5 v13 wr => ∃ k : Nat, k + g = l.length ∧ v13 = .int .i64 k ∧ Hid (PL w v5 ((l.take k).filter fun p => !f p) wr))
  case atStart => exact ⟨0, by omega, by go_num, HPZ.out⟩
  case round =>
    clear HPZ
    obtain ⟨k, hg, rfl, HP⟩ := hrel
    by_cases hlt : k < l.length
    · have hol : ((l.take k).filter fun p => !f p).length ≤ 1000000 := Nat.le_trans (List.length_filter_le _ _) (by simp; omega)
      have HE : Hid ((l.take (k + 1)).filter (fun p => !f p) = (l.take k).filter (fun p => !f p) ++ if f l[k] then [] else [l[k]]) := by
        show _ = _
        rw [List.take_succ_eq_append_getElem hlt, List.filter_append]
        cases h : f l[k] <;> simp [h]
      generalize (l.take k).filter (fun p => !f p) = o at *
      obtain ⟨b1, o1, rfl, hb, hc0, hc1⟩ := sees_pair hs hlt
      have f0 := (HP.out.blw.cell (p := ⟨b1, _, none⟩) (by show b1 < _; omega)).trans hc0
      have f1 := (HP.out.blw.cell (p := ⟨b1, _, none⟩) (by show b1 < _; omega)).trans hc1
      have hkz : (k : Int) < (l.length : Int) := by omega
      generalize l[k] = x at *
      obtain ⟨x1, x2⟩ := x
      dsimp only at f0 f1
      clear hc0 hc1 hs
      go_upto_region 5 with fail
      have HX := Lib.hid (PX.of HP.out x1 x2)
      clear f0 f1 HP
      generalize (wr.alloc (.cells #[.int .i64 x1, .int .i64 x2] 35)) = W1 at *
      generalize wr.heap.size = qb at *
      obtain ⟨p0, p1⟩ := HX.out.cells
      have C1 := Lib.hid (HF.out (x1, x2) W1 HX.out.pl.blw)
      dsimp only at C1
      generalize f (x1, x2) = bb at *
      cases bb
      · go_wp2_with fail
        refine C1.out.mono ?_
        rintro e W2 ⟨rfl, hG⟩
        have HX2 := Lib.hid (HX.out.grew hG)
        clear p0 p1 hG
        obtain ⟨p0, p1⟩ := HX2.out.cells
        go_upto_region 6 with fail
        have HP2 := Lib.hid HX2.out.pl
        have hown := (HP2.out.alloc (prObj x1 x2)).own
        have hnew := new_sees W2 x1 x2
        go_wp2_with (at_builtin; refine wpList_append_any _ rfl (.tmp 21) (.tmp 23) 22 rfl _ 35 i0 (.agg #[.int .i64 0, .int .i64 0]) 2 16 Try.underlying22 hi0 hz0 hz1 hz2 rfl (by decide) _ _ _ rfl hown (W2.heap.size + 1) _ 1 1 _ rfl hnew rfl (prs_one _) ?c1 ?c2 ?c3 ?_)
        case c1 => have := hol; unfold maxLen; omega
        case c2 => have := hol; omega
        case c3 => have := HP2.out.blw.size; simp; omega
        intro v3 W3 ho2 hg2 hb2
        have HP3 := Lib.hid (HP2.out.push x1 x2 (by first | rfl | simp) ho2 hg2)
        clear ho2 hg2 hb2 hown hnew
        go_wp2
        go_roundg (l.length - (k + 1))
        case measure => omega
        case rel => exact ⟨k + 1, by omega, by go_num, by show PL _ _ _ _; rw [HE.out]; exact HP3.out⟩
      · go_wp2_with fail
        refine C1.out.mono ?_
        rintro e W2 ⟨rfl, hG⟩
        have HX2 := Lib.hid (HX.out.grew hG)
        clear p0 p1 hG
        go_wp2
        go_roundg (l.length - (k + 1))
        case measure => omega
        case rel => exact ⟨k + 1, by omega, by go_num, by show PL _ _ _ _; rw [HE.out]; simpa using HX2.out.pl⟩
    · have hk2 : l.take k = l := List.take_of_length_le (by omega)
      rw [hk2] at HP
      have hkz : ¬ (k : Int) < (l.length : Int) := by omega
      clear hk2 hs
      go_wp2
      go_ret
      exact ⟨_, rfl, HP.out⟩

set_option maxRecDepth 100000 in
set_option maxHeartbeats 4000000 in
theorem dropV_any (B : Nat) (A : Option Addr) (l : List Pr) (c : Nat) (v : Int) (w : World) (hs : Sees w B A (prs l)) (hB : B ≤ w.heap.size) (hm : l.length ≤ 1000000) :
    Calls Try.prog 23 #[.slice A l.length c, .int .i64 v] w fun e w' => ∃ u, e = .returned u ∧ PL w u (l.filter fun p => !(p.1 == v)) w' := by
  have hA := (Row.new w 3 #[.int .i64 v])
  have hb := (Below.refl w.heap.size w).alloc (Nat.le_refl _) (.cells #[.int .i64 v] 3)
  have C1 : Hid (Calls Try.prog 31 #[.slice A l.length c, .func (.func 32) #[] #[.pointer (some ⟨w.heap.size, 0, none⟩)]] (w.alloc (.cells #[.int .i64 v] 3)) fun e w' => ∃ u, e = .returned u ∧ PL (w.alloc (.cells #[.int .i64 v] 3)) u (l.filter fun p => !(p.1 == v)) w') := by
    refine drop_any (fun p => p.1 == v) 32 w.heap.size B A l c _ (hs.alloc hB _) (by simp; omega) hm (fun args W => enters_of Try.func32 (by kernel_rfl) rfl args W) fun x W hW => ?_
    obtain ⟨x1, x2⟩ := x
    dsimp only
    have a0 := (hW.cell (p := ⟨w.heap.size, 0, none⟩) (by simp)).trans (hA.cell 0)
    simp only [List.getElem?_toArray, List.getElem?_cons_zero] at a0
    have a1 := World.block_lt_of_cell? _ _ a0
    have HG := Lib.hid ((Grew.refl W).alloc (prObj x1 x2))
    clear hW hs hA hb
    go_enter Try.func32, Try.ntmps32
    go_wp2
    go_ret
    exact ⟨rfl, HG.out⟩
  have HB := Lib.hid hb
  clear hs hA hb
  go_enter Try.func23, Try.ntmps23
  go_wp2_with fail
  refine C1.out.mono ?_
  rintro e W1 ⟨u, rfl, hP⟩
  have HP := Lib.hid (hP.base HB.out)
  clear hP
  go_wp2
  go_ret
  exact ⟨_, rfl, HP.out⟩

set_option maxRecDepth 100000 in
set_option maxHeartbeats 4000000 in
theorem dropL_any (B : Nat) (A : Option Addr) (l : List Pr) (c : Nat) (v : Int) (w : World) (hs : Sees w B A (prs l)) (hB : B ≤ w.heap.size) (hm : l.length ≤ 1000000) :
    Calls Try.prog 25 #[.slice A l.length c, .int .i64 v] w fun e w' => ∃ u, e = .returned u ∧ PL w u (l.filter fun p => !(p.2 == v)) w' := by
  have hA := (Row.new w 28 #[.int .i64 v])
  have hb := (Below.refl w.heap.size w).alloc (Nat.le_refl _) (.cells #[.int .i64 v] 28)
  have C1 : Hid (Calls Try.prog 31 #[.slice A l.length c, .func (.func 33) #[] #[.pointer (some ⟨w.heap.size, 0, none⟩)]] (w.alloc (.cells #[.int .i64 v] 28)) fun e w' => ∃ u, e = .returned u ∧ PL (w.alloc (.cells #[.int .i64 v] 28)) u (l.filter fun p => !(p.2 == v)) w') := by
    refine drop_any (fun p => p.2 == v) 33 w.heap.size B A l c _ (hs.alloc hB _) (by simp; omega) hm (fun args W => enters_of Try.func33 (by kernel_rfl) rfl args W) fun x W hW => ?_
    obtain ⟨x1, x2⟩ := x
    dsimp only
    have a0 := (hW.cell (p := ⟨w.heap.size, 0, none⟩) (by simp)).trans (hA.cell 0)
    simp only [List.getElem?_toArray, List.getElem?_cons_zero] at a0
    have a1 := World.block_lt_of_cell? _ _ a0
    have HG := Lib.hid ((Grew.refl W).alloc (prObj x1 x2))
    clear hW hs hA hb
    go_enter Try.func33, Try.ntmps33
    go_wp2
    go_ret
    exact ⟨rfl, HG.out⟩
  have HB := Lib.hid hb
  clear hs hA hb
  go_enter Try.func25, Try.ntmps25
  go_wp2_with fail
  refine C1.out.mono ?_
  rintro e W1 ⟨u, rfl, hP⟩
  have HP := Lib.hid (hP.base HB.out)
  clear hP
  go_wp2
  go_ret
  exact ⟨_, rfl, HP.out⟩

end Go.Proofs.Ytcnkkpnfijihbaa
