/-
  The reference's Same of layer 15, of any lists: whether they are equal.
-/
import Derived.Test.YtcoehkphdfejjaaPpIn
import Derived.Test.YtcoehkphdfejjaaPk3
import Derived.BigQuiet
import Derived.Shelf.SlSortCmp.QuietGrown
namespace Go.Proofs.Ytcoehkphdfejjaa
open Go.RowKit
set_option linter.unusedVariables false
set_option linter.unusedSimpArgs false

set_option maxRecDepth 100000 in
set_option maxHeartbeats 16000000 in
theorem rsame15_all (B : Nat) (A A' : Option Addr) (xs ys : List (List Pr)) (c c' : Nat) (w : World) (hs : SeesPP w B A xs) (hs' : SeesPP w B A' ys) (hB : B ≤ w.heap.size) (hm : xs.length ≤ 1000000) (hm' : ys.length ≤ 1000000) :
    Calls Try.prog 30 #[.slice A xs.length c, .slice A' ys.length c'] w fun e w' => e = .returned (.bool (decide (xs = ys))) ∧ Grew w w' := by
  have mixed : Try.prog.follows .mixedOrders = true := by kernel_rfl
  have H1 := Lib.hid hs
  have H2 := Lib.hid hs'
  clear hs hs'
  obtain ⟨bb, hbb⟩ : ∃ b, b = decide (xs = ys) := ⟨_, rfl⟩
  rw [← hbb]
  have HBB := Lib.hid hbb
  clear hbb
  by_cases hlen : xs.length = ys.length
  · have HLE := Lib.hid hlen
    have e1 : ((xs.length : Int) != (ys.length : Int)) = false := by simp [hlen]
    have hle2 : xs.length ≤ ys.length := by omega
    clear hlen
    go_enter Try.func30, Try.ntmps30
    go_upto_region 3 with fail
    go_wp2
    go_loopg [5] xs.length (fun g s5 wr => ∃ k : Nat, k + g = xs.length ∧ s5 = .int .i64 (k : Int) ∧ Hid (xs.take k = ys.take k) ∧ Hid (Grew w wr))
    case atStart => exact ⟨0, by omega, by go_num, rfl, Grew.refl w⟩
    case round =>
      obtain ⟨k, hgk, rfl, HT, HG⟩ := hrel
      by_cases hk : k < xs.length
      · have hkz : (k : Int) < (xs.length : Int) := by omega
        have hk' : k < ys.length := by omega
        have hkz' : (k : Int) < (ys.length : Int) := by omega
        have K1 := (H1.out.below (HG.out.below.mono hB))
        have K2 := (H2.out.below (HG.out.below.mono hB))
        obtain ⟨p1, o1, Ai, ci, rfl, hp1, q1, q11, q12, q13⟩ := K1.at_ hk
        obtain ⟨p2, o2, Aj, cj, rfl, hp2, q2, q21, q22, q23⟩ := K2.at_ hk'
        have hz := HG.out.below.size
        obtain ⟨bk, hbk⟩ : ∃ b, b = decide (xs[k] = ys[k]) := ⟨_, rfl⟩
        have C2 : Hid (∀ (W : World) n os, wr = W → Calls Try.prog 51 #[.slice Ai xs[k].length ci, .slice Aj ys[k].length cj] (Go.Sort.grow (W.drewN n) os) fun e w' => e = .returned (.bool bk) ∧ ∃ q os', w' = Go.Sort.grow ((Go.Sort.grow (W.drewN n) os).drewN q) os') := fun W n os hW => by
          subst hW
          have hg : Grew wr (Go.Sort.grow (wr.drewN n) os) := ⟨n, os, rfl⟩
          have h := prsame_any B Ai Aj xs[k] ys[k] ci cj (Go.Sort.grow (wr.drewN n) os) (q13.below (hg.below.mono (by omega))) (q23.below (hg.below.mono (by omega))) (Nat.le_trans q11 q12) (Nat.le_trans q21 q22)
          rw [← hbk] at h
          exact h
        have HBK : Hid (bk = decide (xs[k] = ys[k])) := hbk
        have HTT : Hid (bk = true → xs.take (k + 1) = ys.take (k + 1)) := fun h9 => by
          have h8 : xs[k] = ys[k] := of_decide_eq_true (by rw [← hbk]; exact h9)
          rw [List.take_succ_eq_append_getElem hk, List.take_succ_eq_append_getElem hk', HT.out, h8]
        have HFF : Hid (bk = false → bb = false) := fun h9 => by
          rw [HBB.out]
          refine decide_eq_false fun e => ?_
          have h8 : ¬ xs[k] = ys[k] := of_decide_eq_false (by rw [← hbk]; exact h9)
          subst e
          exact h8 rfl
        clear hbk
        generalize xs[k].length = L at *
        generalize ys[k].length = L' at *
        have gq1 := fun n os => Go.cell_grown (World.block_lt_of_cell? _ _ q1) q1 n os
        have gq2 := fun n os => Go.cell_grown (World.block_lt_of_cell? _ _ q2) q2 n os
        clear q11 q12 q13 q21 q22 q23 HBK
        go_upto_region 6 with fail
        go_quiet_grown (first | (go_at_call 51; refine Calls.grown_of (C2.out _ _ _ rfl)))
        have HG2 : Hid (Grew wr (Go.Sort.grow (wr.drewN nq) osq)) := ⟨nq, osq, rfl⟩
        generalize Go.Sort.grow (wr.drewN nq) osq = W4 at *
        have HG4 := Lib.hid (HG.out.trans HG2.out)
        clear gq1 gq2 C2 q1 q2 K1 K2 HG HG2
        cases bk
        · have HB0 := Lib.hid (HFF.out rfl)
          go_wp2
          go_ret
          exact ⟨by rw [HB0.out]; rfl, HG4.out⟩
        · have HT1 := Lib.hid (HTT.out rfl)
          go_wp2
          go_roundg (xs.length - (k + 1))
          case measure => omega
          case rel => exact ⟨k + 1, by omega, by go_num, HT1.out, HG4.out⟩
      · have hkz : ¬ (k : Int) < (xs.length : Int) := by omega
        have HB1 : Hid (bb = true) := by
          show _ = _
          rw [HBB.out]
          refine decide_eq_true ?_
          have h9 := HT.out
          have h8 := HLE.out
          rw [List.take_of_length_le (by omega), List.take_of_length_le (by omega)] at h9
          exact h9
        go_wp2
        go_ret
        exact ⟨by rw [HB1.out]; rfl, HG.out⟩
  · have e1 : ((xs.length : Int) != (ys.length : Int)) = true := by
      rw [bne_iff_ne]
      omega
    have HB0 : Hid (bb = false) := by
      show _ = _
      rw [HBB.out]
      exact decide_eq_false fun e => hlen (by rw [e])
    clear hlen
    go_enter Try.func30, Try.ntmps30
    go_wp2
    go_ret
    exact ⟨by rw [HB0.out]; rfl, Grew.refl w⟩

end Go.Proofs.Ytcoehkphdfejjaa
