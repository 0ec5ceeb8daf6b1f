/-
  The reference's Same; Sorted of both.
-/
import Derived.Test.YthehcdajedaefaaPsFns
namespace Go.Proofs.Ythehcdajedaefaa
open Go.RowKit
set_option linter.unusedVariables false

theorem take_same {l r : List Pr} {k : Nat} (h : l.take k = r.take k) (hl : k < l.length) (hr : k < r.length) (he : l[k] = r[k]) : l.take (k + 1) = r.take (k + 1) := by
  rw [List.take_succ_eq_append_getElem hl, List.take_succ_eq_append_getElem hr, h, he]

set_option maxRecDepth 100000 in
set_option maxHeartbeats 1000000 in
theorem prsame_any (B : Nat) (A A' : Option Addr) (l r : List Pr) (c c' : Nat) (w : World) (hs : Sees w B A (prs l)) (hs' : Sees w B A' (prs r)) (hm : l.length ≤ maxLen) (hm' : r.length ≤ maxLen) :
    Calls Try.prog 28 #[.slice A l.length c, .slice A' r.length c'] w fun e w' => e = .returned (.bool (decide (l = r))) ∧ Grew w w' := by
  unfold maxLen at hm hm'
  have hG := guard_pr
  obtain ⟨bb, hbb⟩ : ∃ b, b = decide (l = r) := ⟨_, rfl⟩
  rw [← hbb]
  have HBB := Lib.hid hbb
  clear hbb
  have HG := Lib.hid (Grew.refl w)
  by_cases hlen : l.length = r.length
  · have e1 : ((l.length : Int) != (r.length : Int)) = false := by simp [hlen]
    have HL := Lib.hid hlen
    clear hlen
    go_enter Try.func28, Try.ntmps28
    go_wp2
    go_loopw [5] (fun i wr => ∃ k n : Nat, k ≤ l.length ∧ i = .int .i64 k ∧ Hid (l.take k = r.take k) ∧ wr = w.drewN n) (fun i _ => l.length - (intOf i).toNat)
    case atStart => exact ⟨0, 0, Nat.zero_le _, rfl, by simp [Hid], rfl⟩
    case round =>
      obtain ⟨k, n, hk, rfl, HT, rfl⟩ := hrel
      by_cases hlt : k < l.length
      · have hltr : k < r.length := by have := HL.out; omega
        obtain ⟨b, o, rfl, _, hc0, hc1⟩ := sees_pair hs hlt
        obtain ⟨b', o', rfl, _, hd0, hd1⟩ := sees_pair hs' hltr
        have hq : ∀ W, (binOp .neq 52 (.agg #[.int .i64 l[k].1, .int .i64 l[k].2]) (.agg #[.int .i64 r[k].1, .int .i64 r[k].2])).run Try.prog W = .ok (.bool (!decide (l[k] = r[k]))) W := fun W => neq_pr _ _ W
        by_cases hxy : l[k] = r[k]
        · have HS := Lib.hid (take_same HT.out hlt hltr hxy)
          have hq' : (!decide (l[k] = r[k])) = false := by simp [hxy]
          rw [hq'] at hq
          clear hs hs' HT hxy hq'
          generalize l[k].1 = x1 at *
          generalize l[k].2 = x2 at *
          generalize r[k].1 = y1 at *
          generalize r[k].2 = y2 at *
          go_wp2
          go_quiet (fail)
          go_wp2
          go_roundw
          case rel => exact ⟨k + 1, _, by omega, by go_num, HS.out, rfl⟩
          case measure => simp [intOf]; omega
        · have HE := Lib.hid (show decide (l = r) = false from decide_eq_false fun e => hxy (by subst e; rfl))
          have hq' : (!decide (l[k] = r[k])) = true := by simp [hxy]
          rw [hq'] at hq
          clear hs hs' HT hxy hq'
          generalize l[k].1 = x1 at *
          generalize l[k].2 = x2 at *
          generalize r[k].1 = y1 at *
          generalize r[k].2 = y2 at *
          go_wp2
          go_quiet (fail)
          go_wp2
          go_ret
          rw [HBB.out, HE.out]
          exact ⟨rfl, (HG.out.drewN _).drewN _⟩
      · have HE := Lib.hid (show decide (l = r) = true from decide_eq_true (by have hl := HL.out; have ht := HT.out; rw [List.take_of_length_le (by omega), List.take_of_length_le (by omega)] at ht; exact ht))
        clear HT hs hs'
        go_wp2
        go_ret
        rw [HBB.out, HE.out]
        exact ⟨rfl, HG.out.drewN _⟩
  · have HE := Lib.hid (show decide (l = r) = false from decide_eq_false fun e => hlen (by rw [e]))
    have e1 : ((l.length : Int) != (r.length : Int)) = true := by simp; omega
    clear hlen
    go_enter Try.func28, Try.ntmps28
    go_wp2
    go_ret
    rw [HBB.out, HE.out]
    exact ⟨rfl, HG.out⟩

end Go.Proofs.Ythehcdajedaefaa
