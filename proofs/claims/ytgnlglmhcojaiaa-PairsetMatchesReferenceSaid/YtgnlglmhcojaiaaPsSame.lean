/-
  The reference's Same; Sorted of both.
-/
import Derived.Test.YtgnlglmhcojaiaaPsFns
namespace Go.Proofs.Ytgnlglmhcojaiaa
open Go.RowKit
set_option linter.unusedVariables false

theorem take_same {l r : List Pr} {k : Nat} (h : l.take k = r.take k) (hl : k < l.length) (hr : k < r.length) (he : l[k] = r[k]) : l.take (k + 1) = r.take (k + 1) := by
  rw [List.take_succ_eq_append_getElem hl, List.take_succ_eq_append_getElem hr, h, he]

set_option maxRecDepth 100000 in
set_option maxHeartbeats 1000000 in
theorem same_any (B : Nat) (A A' : Option Addr) (l r : List Pr) (c c' : Nat) (w : World) (hs : Sees w B A (prs l)) (hs' : Sees w B A' (prs r)) (hm : l.length ≤ maxLen) (hm' : r.length ≤ maxLen) :
    Calls Try.prog 15 #[.slice A l.length c, .slice A' r.length c'] w fun e w' => e = .returned (.bool (decide (l = r))) ∧ Grew w w' := by
  unfold maxLen at hm hm'
  have hG := guard_pr
  obtain ⟨bb, hbb⟩ : ∃ b, b = decide (l = r) := ⟨_, rfl⟩
  rw [← hbb]
  have HBB := Lib.hid hbb
  clear hbb
  have HG := Lib.hid (Grew.refl w)
  by_cases hlen : l.length = r.length
  · have e1 : ((l.length : Int) != (r.length : Int)) = false := by simp [hlen]
    have HL := Lib.hid hlen
    clear hlen
    go_enter Try.func15, Try.ntmps15
    go_wp2
    go_loopw [5] (fun i wr => ∃ k n : Nat, k ≤ l.length ∧ i = .int .i64 k ∧ Hid (l.take k = r.take k) ∧ wr = w.drewN n) (fun i _ => l.length - (intOf i).toNat)
    case atStart => exact ⟨0, 0, Nat.zero_le _, rfl, by simp [Hid], rfl⟩
    case round =>
      obtain ⟨k, n, hk, rfl, HT, rfl⟩ := hrel
      by_cases hlt : k < l.length
      · have hltr : k < r.length := by have := HL.out; omega
        obtain ⟨b, o, rfl, _, hc0, hc1⟩ := sees_pair hs hlt
        obtain ⟨b', o', rfl, _, hd0, hd1⟩ := sees_pair hs' hltr
        have hq : ∀ W, (binOp .neq 25 (.agg #[.int .i64 l[k].1, .int .i64 l[k].2]) (.agg #[.int .i64 r[k].1, .int .i64 r[k].2])).run Try.prog W = .ok (.bool (!decide (l[k] = r[k]))) W := fun W => neq_pr _ _ W
        by_cases hxy : l[k] = r[k]
        · have HS := Lib.hid (take_same HT.out hlt hltr hxy)
          have hq' : (!decide (l[k] = r[k])) = false := by simp [hxy]
          rw [hq'] at hq
          clear hs hs' HT hxy hq'
          generalize l[k].1 = x1 at *
          generalize l[k].2 = x2 at *
          generalize r[k].1 = y1 at *
          generalize r[k].2 = y2 at *
          go_wp2
          go_quiet (fail)
          go_wp2
          go_roundw
          case rel => exact ⟨k + 1, _, by omega, by go_num, HS.out, rfl⟩
          case measure => simp [intOf]; omega
        · have HE := Lib.hid (show decide (l = r) = false from decide_eq_false fun e => hxy (by subst e; rfl))
          have hq' : (!decide (l[k] = r[k])) = true := by simp [hxy]
          rw [hq'] at hq
          clear hs hs' HT hxy hq'
          generalize l[k].1 = x1 at *
          generalize l[k].2 = x2 at *
          generalize r[k].1 = y1 at *
          generalize r[k].2 = y2 at *
          go_wp2
          go_quiet (fail)
          go_wp2
          go_ret
          rw [HBB.out, HE.out]
          exact ⟨rfl, (HG.out.drewN _).drewN _⟩
      · have HE := Lib.hid (show decide (l = r) = true from decide_eq_true (by have hl := HL.out; have ht := HT.out; rw [List.take_of_length_le (by omega), List.take_of_length_le (by omega)] at ht; exact ht))
        clear HT hs hs'
        go_wp2
        go_ret
        rw [HBB.out, HE.out]
        exact ⟨rfl, HG.out.drewN _⟩
  · have HE := Lib.hid (show decide (l = r) = false from decide_eq_false fun e => hlen (by rw [e]))
    have e1 : ((l.length : Int) != (r.length : Int)) = true := by simp; omega
    clear hlen
    go_enter Try.func15, Try.ntmps15
    go_wp2
    go_ret
    rw [HBB.out, HE.out]
    exact ⟨rfl, HG.out⟩

set_option maxRecDepth 100000 in
set_option maxHeartbeats 1000000 in
theorem psorted_any (B : Nat) (A : Option Addr) (l : List Pr) (c : Nat) (w : World) (hs : Sees w B A (prs l)) (hB : B ≤ w.heap.size) (hm : l.length ≤ maxLen) :
    Calls Try.prog 13 #[.slice A l.length c] w fun e w' => e = .returned (.bool (srtB l)) ∧ Grew w w' := by
  unfold maxLen at hm
  have mixed : Try.prog.follows .mixedOrders = true := by kernel_rfl
  have HG := Lib.hid (Grew.refl w)
  go_enter Try.func13, Try.ntmps13
  go_wp2
  go_loopw [3] (fun i wr => ∃ k : Nat, k ≤ l.length ∧ i = .int .i64 ((k : Int) + 1) ∧ Hid (∀ i, i < k → i + 1 < l.length → ltP (l.getD i (0, 0)) (l.getD (i + 1) (0, 0)) = true) ∧ Hid (Grew w wr)) (fun i _ => l.length + 1 - (intOf i).toNat)
  case atStart => exact ⟨0, Nat.zero_le _, by go_num, fun i hi => by omega, HG.out⟩
  case round =>
    obtain ⟨k, hk, rfl, HT, HW⟩ := hrel
    by_cases hlt : k + 1 < l.length
    · obtain ⟨b, o, rfl, hb, hc0, hc1⟩ := sees_pair hs (show k < l.length by omega)
      obtain ⟨b', o', e, _, hd0, hd1⟩ := sees_pair hs hlt
      obtain ⟨rfl, rfl⟩ : b = b' ∧ o = o' := by
        injection e with e
        injection e with e1 e2
        exact ⟨e1, e2⟩
      clear e
      have hlz : (k : Int) + 1 < (l.length : Int) := by omega
      have hltz : (k : Int) < (l.length : Int) := by omega
      have hwp : IntKind.i64.wrap (k : Int) = (k : Int) := by rw [IntKind.wrap_i64]; omega
      have p0 : (0 : Int) ≤ (k : Int) + 1 := by omega
      have e0 : ((k : Int) + 1).toNat = k + 1 := by omega
      have f0 := HW.out.cell hc0; have f1 := HW.out.cell hc1; have f2 := HW.out.cell hd0; have f3 := HW.out.cell hd1
      have hbw : b < wr.heap.size := World.block_lt_of_cell? _ _ f0
      have g0 := fun n os => Go.cell_grown hbw f0 n os
      have g1 := fun n os => Go.cell_grown hbw f1 n os
      have g2 := fun n os => Go.cell_grown hbw f2 n os
      have g3 := fun n os => Go.cell_grown hbw f3 n os
      have C1 : Hid (∀ n os, Calls Try.prog 23 #[.agg #[.int .i64 l[k].1, .int .i64 l[k].2], .agg #[.int .i64 l[k + 1].1, .int .i64 l[k + 1].2]] (Go.Sort.grow (wr.drewN n) os) fun e w' => e = .returned (.bool (ltP l[k] l[k + 1])) ∧ ∃ q os', w' = Go.Sort.grow ((Go.Sort.grow (wr.drewN n) os).drewN q) os') := fun n os => less_any _ _ _
      have HL := Lib.hid (show ltP (l.getD k (0, 0)) (l.getD (k + 1) (0, 0)) = ltP l[k] l[k + 1] by rw [getD_get hlt, getD_get (by omega)])
      clear hs hc0 hc1 hd0 hd1 f0 f1 f2 f3
      generalize ltP l[k] l[k + 1] = bb at *
      generalize l[k].1 = x1 at *
      generalize l[k].2 = x2 at *
      generalize l[k + 1].1 = y1 at *
      generalize l[k + 1].2 = y2 at *
      cases bb
      · go_wp2_with fail
        go_quiet_grown (first | (go_at_call 23; refine Calls.grown_of (C1.out _ _)))
        go_wp2
        go_ret
        rw [srtB_no hlt HL.out]
        exact ⟨rfl, HW.out.trans ⟨_, _, rfl⟩⟩
      · go_wp2_with fail
        go_quiet_grown (first | (go_at_call 23; refine Calls.grown_of (C1.out _ _)))
        go_wp2
        go_roundw
        case rel =>
          refine ⟨k + 1, by omega, by go_num, fun i hi hi2 => ?_, HW.out.trans ⟨_, _, rfl⟩⟩
          rcases Nat.lt_or_ge i k with h | h
          · exact HT.out i h hi2
          · obtain rfl : i = k := by omega
            exact HL.out
        case measure => simp [intOf]; omega
    · have HE := Lib.hid (srtB_yes (l := l) fun i hi => HT.out i (by omega) hi)
      have hlz : ¬ (k : Int) + 1 < (l.length : Int) := by omega
      clear HT hs
      go_wp2
      go_ret
      rw [HE.out]
      exact ⟨rfl, HW.out⟩

set_option maxRecDepth 100000 in
set_option maxHeartbeats 1000000 in
theorem rsorted_any (B : Nat) (A : Option Addr) (l : List Pr) (c : Nat) (w : World) (hs : Sees w B A (prs l)) (hB : B ≤ w.heap.size) (hm : l.length ≤ maxLen - 1) :
    Calls Try.prog 14 #[.slice A l.length c] w fun e w' => e = .returned (.bool (srtB l)) ∧ Grew w w' := by
  unfold maxLen at hm
  have mixed : Try.prog.follows .mixedOrders = true := by kernel_rfl
  have HG := Lib.hid (Grew.refl w)
  go_enter Try.func14, Try.ntmps14
  go_wp2
  go_loopw [3] (fun i wr => ∃ k : Nat, k ≤ l.length ∧ i = .int .i64 (k : Int) ∧ Hid (∀ i, i < k → i + 1 < l.length → ltP (l.getD i (0, 0)) (l.getD (i + 1) (0, 0)) = true) ∧ Hid (Grew w wr)) (fun i _ => l.length - (intOf i).toNat)
  case atStart => exact ⟨0, Nat.zero_le _, by go_num, fun i hi => by omega, HG.out⟩
  case round =>
    obtain ⟨k, hk, rfl, HT, HW⟩ := hrel
    by_cases hlt : k + 1 < l.length
    · obtain ⟨b, o, rfl, hb, hc0, hc1⟩ := sees_pair hs (show k < l.length by omega)
      obtain ⟨b', o', e, _, hd0, hd1⟩ := sees_pair hs hlt
      obtain ⟨rfl, rfl⟩ : b = b' ∧ o = o' := by
        injection e with e
        injection e with e1 e2
        exact ⟨e1, e2⟩
      clear e
      have hlz : (k : Int) + 1 < (l.length : Int) := by omega
      have hltz : (k : Int) < (l.length : Int) := by omega
      have hwp : IntKind.i64.wrap ((k : Int) + 1) = (k : Int) + 1 := by rw [IntKind.wrap_i64]; omega
      have p0 : (0 : Int) ≤ (k : Int) + 1 := by omega
      have e0 : ((k : Int) + 1).toNat = k + 1 := by omega
      have f0 := HW.out.cell hc0; have f1 := HW.out.cell hc1; have f2 := HW.out.cell hd0; have f3 := HW.out.cell hd1
      have hbw : b < wr.heap.size := World.block_lt_of_cell? _ _ f0
      have g0 := fun n os => Go.cell_grown hbw f0 n os
      have g1 := fun n os => Go.cell_grown hbw f1 n os
      have g2 := fun n os => Go.cell_grown hbw f2 n os
      have g3 := fun n os => Go.cell_grown hbw f3 n os
      have C1 : Hid (∀ n os, Calls Try.prog 27 #[.agg #[.int .i64 l[k].1, .int .i64 l[k].2], .agg #[.int .i64 l[k + 1].1, .int .i64 l[k + 1].2]] (Go.Sort.grow (wr.drewN n) os) fun e w' => e = .returned (.bool (ltP l[k] l[k + 1])) ∧ ∃ q os', w' = Go.Sort.grow ((Go.Sort.grow (wr.drewN n) os).drewN q) os') := fun n os => rless_any _ _ _
      have HL := Lib.hid (show ltP (l.getD k (0, 0)) (l.getD (k + 1) (0, 0)) = ltP l[k] l[k + 1] by rw [getD_get hlt, getD_get (by omega)])
      clear hs hc0 hc1 hd0 hd1 f0 f1 f2 f3
      generalize ltP l[k] l[k + 1] = bb at *
      generalize l[k].1 = x1 at *
      generalize l[k].2 = x2 at *
      generalize l[k + 1].1 = y1 at *
      generalize l[k + 1].2 = y2 at *
      cases bb
      · go_wp2_with fail
        go_quiet_grown (first | (go_at_call 27; refine Calls.grown_of (C1.out _ _)))
        go_wp2
        go_ret
        rw [srtB_no hlt HL.out]
        exact ⟨rfl, HW.out.trans ⟨_, _, rfl⟩⟩
      · go_wp2_with fail
        go_quiet_grown (first | (go_at_call 27; refine Calls.grown_of (C1.out _ _)))
        go_wp2
        go_roundw
        case rel =>
          refine ⟨k + 1, by omega, by go_num, fun i hi hi2 => ?_, HW.out.trans ⟨_, _, rfl⟩⟩
          rcases Nat.lt_or_ge i k with h | h
          · exact HT.out i h hi2
          · obtain rfl : i = k := by omega
            exact HL.out
        case measure => simp [intOf]; omega
    · have HE := Lib.hid (srtB_yes (l := l) fun i hi => HT.out i (by omega) hi)
      have hlz : ¬ (k : Int) + 1 < (l.length : Int) := by omega
      clear HT hs
      go_wp2
      go_ret
      rw [HE.out]
      exact ⟨rfl, HW.out⟩

end Go.Proofs.Ytgnlglmhcojaiaa
