/-
  The walk of the statement on the cost of valid encodings.
-/
import Derived.Test.YtkapmfopfddmbaaGreatDcAwk
import Derived.Test.YtkapmfopfddmbaaGreatCcRe
import Derived.Test.YtkapmfopfddmbaaGreatPk30
import Derived.Test.YtkapmfopfddmbaaGreatPk15
import Derived.Test.YtkapmfopfddmbaaGreatCkVal
import Derived.Deep.RegionHeld3
import Derived.Deep.LoopGhost
import Derived.BigQuiet
namespace Go.Proofs.YtkapmfopfddmbaaGreat
open Go.RowKit Go.Deep
set_option linter.unusedVariables false
set_option linter.unusedSimpArgs false

theorem codeN_step21 {bs : List Blk} {i : Nat} (h : i < bs.length) : codeN (bs.take (i + 1)) = codeN (bs.take i) + bs[i].code.length ∧ codeN (bs.take i) + bs[i].code.length ≤ codeN bs := by
  have e : bs.take (i + 1) = bs.take i ++ [bs[i]] := by rw [List.take_succ_eq_append_getElem h]
  have e1 : codeN (bs.take (i + 1)) = codeN (bs.take i) + bs[i].code.length := by rw [e, codeN_append, codeN_cons]; rfl
  have e2 := codeN_append (bs.take (i + 1)) (bs.drop (i + 1))
  rw [List.take_append_drop] at e2
  exact ⟨e1, by omega⟩

theorem mcodeN_app21 (a b : List MBlk) : mcodeN (a ++ b) = mcodeN a + mcodeN b := by rw [mcodeN, List.map_append, List.sum_append]; rfl

theorem mcodeN_step21 {bs : List MBlk} {i : Nat} (h : i < bs.length) : mcodeN (bs.take (i + 1)) = mcodeN (bs.take i) + bs[i].code.length ∧ mcodeN (bs.take i) + bs[i].code.length ≤ mcodeN bs := by
  have e : bs.take (i + 1) = bs.take i ++ [bs[i]] := by rw [List.take_succ_eq_append_getElem h]
  have e1 : mcodeN (bs.take (i + 1)) = mcodeN (bs.take i) + bs[i].code.length := by rw [e, mcodeN_app21, mcodeN_cons21]; rfl
  have e2 := mcodeN_app21 (bs.take (i + 1)) (bs.drop (i + 1))
  rw [List.take_append_drop] at e2
  exact ⟨e1, by omega⟩

theorem totP_app21 (a b : List (List Pr)) : totP (a ++ b) = totP a + totP b := by rw [totP, List.map_append, List.sum_append]; rfl

theorem totP_step21 {w : List (List Pr)} {i : Nat} (h : i < w.length) : totP (w.take (i + 1)) = totP (w.take i) + w[i].length ∧ totP (w.take i) + w[i].length ≤ totP w := by
  have e : w.take (i + 1) = w.take i ++ [w[i]] := by rw [List.take_succ_eq_append_getElem h]
  have e1 : totP (w.take (i + 1)) = totP (w.take i) + w[i].length := by rw [e, totP_app21, totP_cons21]; rfl
  have e2 := totP_app21 (w.take (i + 1)) (w.drop (i + 1))
  rw [List.take_append_drop] at e2
  exact ⟨e1, by omega⟩

set_option maxRecDepth 100000 in
set_option maxHeartbeats 8000000 in
theorem DecodecostExact_walk (a0 : Array Value) (w : World) (wc : IsCert w a0) :
    Calls Tryz.prog 3 #[.agg a0] w fun e w' => e = .returned (.bool true) ∧ Below w.heap.size w w' := by
  have AW : Hid (∀ W, Calls Tryz.prog 4 #[] W fun e w' => e = .returned (.bool true) ∧ Below W.heap.size W w') := fun W => awake21_any W
  obtain ⟨c, A1, k1, A2, k2, A3, k3, rfl, hce, hwf⟩ := wc
  have Hc1 := Lib.hid (CeK.start hce)
  have HWF := Lib.hid hwf
  clear hce hwf
  go_enter Tryz.func3, Tryz.ntmps3
  go_upto_region 1 with fail
  generalize (w.alloc (.cells #[.int .i64 c.sa, .int .i64 c.sr, .slice A1 c.bs.length k1, .int .i64 c.ta, .int .i64 c.tr, .int .i64 c.ts, .slice A2 c.ms.length k2, .slice A3 c.inv.length k3] 30)) = W0 at *
  go_wp2_with fail
  refine (AW.out _).mono ?_
  rintro e W1 ⟨rfl, hb⟩
  have Hc2 := Lib.hid (Hc1.out.next hb)
  clear Hc1
  clear hb
  have c0 := Hc2.out.row.cell 0; have c1 := Hc2.out.row.cell 1; have c2 := Hc2.out.row.cell 2; have c3 := Hc2.out.row.cell 3; have c4 := Hc2.out.row.cell 4; have c5 := Hc2.out.row.cell 5; have c6 := Hc2.out.row.cell 6; have c7 := Hc2.out.row.cell 7
  simp only [List.getElem?_toArray, List.getElem?_cons_zero, List.getElem?_cons_succ] at c0 c1 c2 c3 c4 c5 c6 c7
  go_wp2_with fail
  refine (rckfew_any W1 (Hc2.out.see.more Hc2.out.blw.size)).mono ?_
  rintro e W2 ⟨⟨bf, rfl, hF⟩, hb⟩
  have Hc3 := Lib.hid (Hc2.out.next hb)
  clear Hc2
  clear hb
  clear c0 c1 c2 c3 c4 c5 c6 c7
  by_cases hbf : bf = false
  · subst hbf
    clear hF
    go_wp2_with fail
    refine (AW.out _).mono ?_
    rintro e W9 ⟨rfl, hb⟩
    go_wp2
    go_ret
    exact ⟨rfl, Hc3.out.blw.trans (hb.mono Hc3.out.blw.size)⟩
  obtain rfl : bf = true := by cases bf; exact absurd rfl hbf; rfl
  have HSM := Lib.hid (hF rfl)
  clear hF hbf
  have c0 := Hc3.out.row.cell 0; have c1 := Hc3.out.row.cell 1; have c2 := Hc3.out.row.cell 2; have c3 := Hc3.out.row.cell 3; have c4 := Hc3.out.row.cell 4; have c5 := Hc3.out.row.cell 5; have c6 := Hc3.out.row.cell 6; have c7 := Hc3.out.row.cell 7
  simp only [List.getElem?_toArray, List.getElem?_cons_zero, List.getElem?_cons_succ] at c0 c1 c2 c3 c4 c5 c6 c7
  go_wp2_with fail
  refine (renc20_any W2 (Hc3.out.see.more Hc3.out.blw.size) HSM.out.w HWF.out.inv (fun hv => CV.of hv HSM.out (wf_ci HWF.out))).mono ?_
  rintro e W3 ⟨hb, hcase⟩
  have Hc4 := Lib.hid (Hc3.out.next hb)
  clear Hc3
  clear c0 c1 c2 c3 c4 c5 c6 c7
  rcases hcase with ⟨hv, Ab, kb, rfl, ho⟩ | ⟨hv, rfl⟩
  rotate_left
  · clear hb
    generalize validC c = ve at *
    have d1 : (ve != 0) = true := by simp [hv]
    clear hv
    go_wp2
    go_ret
    exact ⟨rfl, Hc4.out.blw⟩
  have HV := Lib.hid (CV.of hv HSM.out (wf_ci HWF.out))
  have HV0 := Lib.hid hv
  have hlen3 : 3 ≤ (encCt c).length := by unfold encCt; simp
  have hlenm := HV.out.size.2.2
  obtain ⟨x1, x2, x3, x4, x5, x6⟩ := costE_exact hv HV.out.ci HV.out.cr HV.out.cl HV.out.byt
  obtain ⟨hcap1, hcap2⟩ := own_cap20 ho
  have C1 : Hid (Calls Tryz.prog 7 #[.slice Ab (encCt c).length kb] W3 (OfP W3 (encCt c))) := pof21_any Ab (encCt c) kb W3 (Sees.of_own ho) HV.out.byt (by omega) hcap1 hcap2
  have lc1 : codeN c.bs ≤ 1048576 := HV.out.vf.c
  have lc2 : mcodeN c.ms ≤ 1048576 := HV.out.vg.c
  have lc3 : totP c.inv ≤ 1048576 := HV.out.cr.np
  obtain ⟨⟨b, i, p, y⟩, hc⟩ : ∃ z, costE (encCt c) = z := ⟨_, rfl⟩
  rw [hc] at x1 x2 x3 x4
  unfold OfP at C1
  rw [hc] at C1
  dsimp only at x1 x2 x3 x4 C1
  obtain ⟨n, hn⟩ : ∃ n, (encCt c).length = n := ⟨_, rfl⟩
  rw [hn] at x4 C1 hlenm ⊢
  have dy : (y : Int) ≤ (n : Int) - 9 := by omega
  have nb : c.inv.length ≤ 3000 := HV.out.il
  clear hv hb ho hc hn hlen3 HV HV0 HSM HWF
  have x7 : b = 2 * (c.inv.length : Int) := by omega
  have HX5 := Lib.hid x5
  have HX6 := Lib.hid x6
  clear x1 x5 x6
  subst x7 x2 x3
  go_wp2_with fail
  refine C1.out.mono ?_
  rintro e W4 ⟨rfl, hb⟩
  have Hc5 := Lib.hid (Hc4.out.next hb)
  clear C1 Hc4 hb
  go_upto_region 7 with fail
  have HD6 := Lib.hid (Row.new W4 37 #[.int .i64 (2 * (c.inv.length : Int)), .int .i64 ((codeN c.bs : Int) + (mcodeN c.ms : Int)), .int .i64 (totP c.inv : Int), .int .i64 (y : Int)])
  have Hc6 := Lib.hid (Hc5.out.alloc (.cells #[.int .i64 (2 * (c.inv.length : Int)), .int .i64 ((codeN c.bs : Int) + (mcodeN c.ms : Int)), .int .i64 (totP c.inv : Int), .int .i64 (y : Int)] 37))
  clear Hc5
  generalize (W4.alloc (.cells #[.int .i64 (2 * (c.inv.length : Int)), .int .i64 ((codeN c.bs : Int) + (mcodeN c.ms : Int)), .int .i64 (totP c.inv : Int), .int .i64 (y : Int)] 37)) = W5 at *
  obtain ⟨x, hx⟩ : ∃ x, W4.heap.size = x := ⟨_, rfl⟩
  rw [hx] at HD6 ⊢
  clear hx
  go_wp2
  go_loopg [6, 7, 8] c.inv.length (fun g v6 v7 v8 wr => ∃ i : Nat, i + g = c.inv.length ∧ v6 = .int .i64 ((codeN (c.bs.take i) : Int) + (mcodeN (c.ms.take i) : Int)) ∧ v7 = .int .i64 (totP (c.inv.take i) : Int) ∧ v8 = .int .i64 i ∧ Hid (Below W5.heap.size W5 wr))
  case atStart => exact ⟨0, by omega, rfl, rfl, rfl, Below.refl _ _⟩
  case round =>
    obtain ⟨i, hig, rfl, rfl, rfl, HB⟩ := hrel
    have HK := Lib.hid (Hc6.out.next HB.out)
    have HD := Lib.hid (HD6.out.below HB.out HD6.out.lt)
    have c0 := HK.out.row.k0; have c1 := HK.out.row.k1; have c2 := HK.out.row.k2; have c3 := HK.out.row.k3; have c4 := HK.out.row.k4; have c5 := HK.out.row.k5; have c6 := HK.out.row.k6; have c7 := HK.out.row.k7
    cases gk with
    | zero =>
      have hin : ¬ (i : Int) < (c.inv.length : Int) := by omega
      have e1 : c.bs.take i = c.bs := List.take_of_length_le (by have := HX6.out; omega)
      have e2 : c.ms.take i = c.ms := List.take_of_length_le (by have := HX5.out; have := HX6.out; omega)
      have e3 : c.inv.take i = c.inv := List.take_of_length_le (by omega)
      rw [e1, e2, e3]
      have q0 := HD.out.k0; have q1 := HD.out.k1; have q2 := HD.out.k2; have q3 := HD.out.k3
      clear e1 e2 e3 hig
      go_wp2
      go_ret
      exact ⟨rfl, HK.out.blw⟩
    | succ g =>
      have hin : (i : Int) < (c.inv.length : Int) := by omega
      have h1 : i < c.bs.length := by have := HX6.out; omega
      have h2 : i < c.ms.length := by have := HX5.out; have := HX6.out; omega
      have h3 : i < c.inv.length := by omega
      obtain ⟨s1, t1⟩ := codeN_step21 h1
      obtain ⟨s2, t2⟩ := mcodeN_step21 h2
      obtain ⟨s3, t3⟩ := totP_step21 h3
      have S1 := Lib.hid s1; have S2 := Lib.hid s2; have S3 := Lib.hid s3
      obtain ⟨b1, o1, e1, _, hB1⟩ := HK.out.see.bs.at_ h1
      obtain ⟨b2, o2, e2, _, hB2⟩ := HK.out.see.ms.at_ h2
      obtain ⟨b3, o3, Ai, ci, e3, _, hB3, _⟩ := HK.out.see.inv.at_ h3
      obtain ⟨Ac, cc1, f1, _⟩ := hB1.code
      obtain ⟨Am, cm1, f2, _⟩ := hB2.code
      subst e1 e2 e3
      generalize c.bs[i].code.length = l1 at *
      generalize c.ms[i].code.length = l2 at *
      generalize c.inv[i].length = l3 at *
      generalize hcs : codeN (c.bs.take i) = u1 at *
      generalize hms : mcodeN (c.ms.take i) = u2 at *
      generalize hps : totP (c.inv.take i) = u3 at *
      clear s1 s2 s3 hB1 hB2 hcs hms hps
      have g1 := hB3
      go_upto_region 12 with fail
      go_quiet (fail)
      go_wp2
      go_roundg g
      case measure => omega
      refine ⟨i + 1, by omega, ?_, ?_, ?_, blw_drewN HB.out _⟩
      · have := S1.out; have := S2.out; rw [this, S1.out]; congr 1; omega
      · have := S3.out; rw [this]; congr 1
      · congr 1

end Go.Proofs.YtkapmfopfddmbaaGreat
