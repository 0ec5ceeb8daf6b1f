/-
  The program's iterator over the locations in range.
-/
import Derived.Test.YtacendjemomkfaaEdEnt
import Derived.RangeFuncNested
import Derived.RangeFuncBound
import Derived.RangeFuncCalls
import Derived.RangeFuncLeaves
import Derived.RangeFuncBox
import Derived.Shelf.Abstract
import Derived.Shelf.RegionOpen
import Derived.WalkKit
import Derived.OwnWalkIn
import Derived.TacticsInMore
import Derived.LoopNIn
import Derived.LoopIn
import Derived.Sort.LoopGhostIn
namespace Go.Proofs.Ytacendjemomkfaa
open Go.RowKit Go.Shelf
set_option linter.unusedVariables false

attribute [local go_sem] Oper.semAt_some

/-- A location that the iterator may hand out. -/
abbrev LocT := { l : Int // 0 ≤ l ∧ l ≤ 1000 }
/-- The locations in range below k. -/
def locsP (r s k : Nat) : List Int := ((List.range k).map fun x : Nat => (x : Int)).filter fun l => locS l r s
theorem locsP_succ (r s k : Nat) : locsP r s (k + 1) = locsP r s k ++ if locS (k : Int) r s = true then [(k : Int)] else [] := by
  unfold locsP
  rw [List.range_succ, List.map_append, List.filter_append]
  congr 1
  simp only [List.map_cons, List.map_nil, List.filter_cons, List.filter_nil]
theorem locsP_two (r s : Nat) : ∀ m, locsP r s (2 * m) = locsN r s m
  | 0 => by simp [locsP, locsN]
  | m + 1 => by
    rw [show 2 * (m + 1) = 2 * m + 1 + 1 by omega, locsP_succ, locsP_succ, locsP_two r s m, locsN_succ, List.append_assoc]
    congr 1
    unfold locsL
    have e1 : locS ((2 * m : Nat) : Int) r s = decide (m < r) := by
      unfold locS
      rw [if_neg (by omega), if_neg (by omega)]
      exact decide_eq_decide.2 (by omega)
    have e2 : locS ((2 * m + 1 : Nat) : Int) r s = decide (m < s) := by
      unfold locS
      rw [if_neg (by omega), if_pos (by omega)]
      exact decide_eq_decide.2 (by omega)
    rw [e1, e2]
    simp
theorem locsP_len (r s k : Nat) : (locsP r s k).length ≤ k := by
  refine Nat.le_trans (List.length_filter_le _ _) (by simp)

/-- The two boxes of the sizes. -/
structure RS2 (b1 b2 : Nat) (r s : Int) (W : World) : Prop where
  h1 : Row W b1 3 #[.int .i64 r]
  h2 : Row W b2 3 #[.int .i64 s]

set_option maxRecDepth 100000 in
set_option maxHeartbeats 1000000 in
theorem locations_any (r s : Int) (w : World) :
    Calls Try.prog 25 #[.int .i64 r, .int .i64 s] w fun e w' => e = .returned (.func (.func 31) #[] #[.pointer (some ⟨w.heap.size, 0, none⟩), .pointer (some ⟨w.heap.size + 1, 0, none⟩)]) ∧
      w' = (w.alloc (.cells #[.int .i64 r] 3)).alloc (.cells #[.int .i64 s] 3) := by
  go_enter Try.func25, Try.ntmps25
  go_wp2
  go_ret
  exact ⟨rfl, rfl⟩

/-- What a round that goes on keeps: the boxes. -/
def KpRS (b1 b2 : Nat) (r s : Int) (W W' : World) : Prop := RS2 b1 b2 r s W → RS2 b1 b2 r s W'

set_option maxRecDepth 100000 in
set_option maxHeartbeats 4000000 in
theorem locs1_in (l b1 b2 : Nat) (r s : Nat) (hr : r ≤ 20) (hs : s ≤ 20) (J Jx : List LocT → World → Prop)
    (hY : ∀ (pre : List LocT) (x : LocT) (W : World), J pre W → pre.length < 100 → YieldAt Fence.wide (1 - 1) Try.prog l #[.int .i64 x.1] W fun e W' =>
      (e = .returned (.bool true) ∧ J (pre ++ [x]) W' ∧ KpRS b1 b2 r s W W') ∨ (e = .returned (.bool false) ∧ Jx (pre ++ [x]) W'))
    (W : World) (hR : RS2 b1 b2 r s W) (h0 : J [] W) :
    CallsIn Fence.wide 1 Try.prog 31 #[.func (.yield l) #[] #[], .pointer (some ⟨b1, 0, none⟩), .pointer (some ⟨b2, 0, none⟩)] W fun e W' => (∃ v, e = .returned v) ∧
      ((∃ ys : List LocT, ys.map (·.1) = locsN r s (max r s) ∧ J ys W') ∨ (∃ pre : List LocT, True ∧ Jx pre W')) := by
  obtain ⟨m, hm⟩ : ∃ m : Nat, m = max r s := ⟨_, rfl⟩
  have HM := Lib.hid hm
  have hmI : max (r : Int) (s : Int) = (m : Int) := by omega
  have hm20 : m ≤ 20 := by omega
  rw [← hm, ← locsP_two]
  clear hm
  refine callsIn_of_wp Try.func31 rfl trivial ?_ rfl
  simp only [Try.ntmps31, List.size_toArray, List.length_cons, List.length_nil, Nat.reduceAdd, Nat.reduceSub, Array.replicate_succ, Array.replicate_zero, List.push_toArray, List.append_toArray, List.nil_append, List.cons_append]
  have c1 := hR.h1.cell 0
  have c2 := hR.h2.cell 0
  simp only [List.getElem?_toArray, List.getElem?_cons_zero] at c1 c2
  obtain ⟨M, hM⟩ : ∃ M, M = 2 * m := ⟨_, rfl⟩
  rw [← hM]
  have hM40 : M ≤ 40 := by omega
  by_cases hrs : r < s
  · have e2 : 2 * (s : Int) = (M : Int) := by omega
    clear hmI hM
    gi_wp2
    gi_loopg [9] M (fun g v9 wr => ∃ (k : Nat) (pre : List LocT), k + g = M ∧ v9 = .int .i64 k ∧ Hid (pre.map (·.1) = locsP r s k) ∧ Hid (J pre wr) ∧ Hid (RS2 b1 b2 r s wr))
    case atStart => exact ⟨0, [], by omega, by go_num, rfl, h0, hR⟩
    case round =>
      clear c1 c2
      obtain ⟨k, pre, hg, rfl, HP, HJ, HR⟩ := hrel
      have c1 := HR.out.h1.cell 0
      have c2 := HR.out.h2.cell 0
      simp only [List.getElem?_toArray, List.getElem?_cons_zero] at c1 c2
      by_cases hk : k < M
      · have hkz : (k : Int) < (M : Int) := by omega
        rcases hb : locS (k : Int) r s with _ | _
        · have C1 := Lib.hid fun W => locin_at (k : Int) r s false W ⟨by omega, by omega⟩ hb
          have HP2 : Hid (pre.map (·.1) = locsP r s (k + 1)) := by show _ = _; rw [locsP_succ, hb, HP.out]; simp
          clear hb
          gi_wp2_with (refine ⟨trivial, ?_⟩; gi_at_call 29; refine (callsIn_wide.2 (C1.out _)).mono ?_; rintro e w' ⟨rfl, rfl⟩)
          refine ⟨fun _ h => (by cases h), ?_⟩
          gi_wp2
          gi_roundg (M - (k + 1))
          case measure => omega
          case rel => exact ⟨k + 1, pre, by omega, by go_num, HP2.out, HJ.out, HR.out⟩
        · have C1 := Lib.hid fun W => locin_at (k : Int) r s true W ⟨by omega, by omega⟩ hb
          have HP2 : Hid ((pre ++ [(⟨(k : Int), by omega, by omega⟩ : LocT)]).map (·.1) = locsP r s (k + 1)) := by show _ = _; rw [locsP_succ, hb, List.map_append, HP.out]; simp
          have hlen : pre.length < 100 := by
            have h1 := locsP_len r s k
            rw [← HP.out, List.length_map] at h1
            omega
          obtain ⟨fn, tmps, assign, body, hy, hRo⟩ := hY pre ⟨(k : Int), by omega, by omega⟩ wr HJ.out hlen
          dsimp only at hy
          clear hb
          gi_wp2_with (refine ⟨trivial, ?_⟩; gi_at_call 29; refine (callsIn_wide.2 (C1.out _)).mono ?_; rintro e w' ⟨rfl, rfl⟩)
          refine hRo.mono ?_
          rintro e W3 (⟨rfl, hJ3, hk3⟩ | ⟨rfl, hJx3⟩)
          · have HJ3 := Lib.hid hJ3
            have HR3 := Lib.hid (hk3 HR.out)
            clear hJ3 hk3
            gi_wp2
            gi_roundg (M - (k + 1))
            case measure => omega
            case rel => exact ⟨k + 1, _, by omega, by go_num, HP2.out, HJ3.out, HR3.out⟩
          · have HJ3 := Lib.hid hJx3
            clear hJx3
            gi_wp2
            refine bodyPost_ret (results_none rfl _ _ _) rfl ?_
            exact ⟨⟨_, rfl⟩, .inr ⟨_, trivial, HJ3.out⟩⟩
      · have hkz : ¬ (k : Int) < (M : Int) := by omega
        obtain rfl : k = M := by omega
        gi_wp2
        go_end0
        exact ⟨⟨_, rfl⟩, .inl ⟨pre, HP.out, HJ.out⟩⟩
  · have e2 : 2 * (r : Int) = (M : Int) := by omega
    clear hmI hM
    gi_wp2
    gi_loopg [9] M (fun g v9 wr => ∃ (k : Nat) (pre : List LocT), k + g = M ∧ v9 = .int .i64 k ∧ Hid (pre.map (·.1) = locsP r s k) ∧ Hid (J pre wr) ∧ Hid (RS2 b1 b2 r s wr))
    case atStart => exact ⟨0, [], by omega, by go_num, rfl, h0, hR⟩
    case round =>
      clear c1 c2
      obtain ⟨k, pre, hg, rfl, HP, HJ, HR⟩ := hrel
      have c1 := HR.out.h1.cell 0
      have c2 := HR.out.h2.cell 0
      simp only [List.getElem?_toArray, List.getElem?_cons_zero] at c1 c2
      by_cases hk : k < M
      · have hkz : (k : Int) < (M : Int) := by omega
        rcases hb : locS (k : Int) r s with _ | _
        · have C1 := Lib.hid fun W => locin_at (k : Int) r s false W ⟨by omega, by omega⟩ hb
          have HP2 : Hid (pre.map (·.1) = locsP r s (k + 1)) := by show _ = _; rw [locsP_succ, hb, HP.out]; simp
          clear hb
          gi_wp2_with (refine ⟨trivial, ?_⟩; gi_at_call 29; refine (callsIn_wide.2 (C1.out _)).mono ?_; rintro e w' ⟨rfl, rfl⟩)
          refine ⟨fun _ h => (by cases h), ?_⟩
          gi_wp2
          gi_roundg (M - (k + 1))
          case measure => omega
          case rel => exact ⟨k + 1, pre, by omega, by go_num, HP2.out, HJ.out, HR.out⟩
        · have C1 := Lib.hid fun W => locin_at (k : Int) r s true W ⟨by omega, by omega⟩ hb
          have HP2 : Hid ((pre ++ [(⟨(k : Int), by omega, by omega⟩ : LocT)]).map (·.1) = locsP r s (k + 1)) := by show _ = _; rw [locsP_succ, hb, List.map_append, HP.out]; simp
          have hlen : pre.length < 100 := by
            have h1 := locsP_len r s k
            rw [← HP.out, List.length_map] at h1
            omega
          obtain ⟨fn, tmps, assign, body, hy, hRo⟩ := hY pre ⟨(k : Int), by omega, by omega⟩ wr HJ.out hlen
          dsimp only at hy
          clear hb
          gi_wp2_with (refine ⟨trivial, ?_⟩; gi_at_call 29; refine (callsIn_wide.2 (C1.out _)).mono ?_; rintro e w' ⟨rfl, rfl⟩)
          refine hRo.mono ?_
          rintro e W3 (⟨rfl, hJ3, hk3⟩ | ⟨rfl, hJx3⟩)
          · have HJ3 := Lib.hid hJ3
            have HR3 := Lib.hid (hk3 HR.out)
            clear hJ3 hk3
            gi_wp2
            gi_roundg (M - (k + 1))
            case measure => omega
            case rel => exact ⟨k + 1, _, by omega, by go_num, HP2.out, HJ3.out, HR3.out⟩
          · have HJ3 := Lib.hid hJx3
            clear hJx3
            gi_wp2
            refine bodyPost_ret (results_none rfl _ _ _) rfl ?_
            exact ⟨⟨_, rfl⟩, .inr ⟨_, trivial, HJ3.out⟩⟩
      · have hkz : ¬ (k : Int) < (M : Int) := by omega
        obtain rfl : k = M := by omega
        gi_wp2
        go_end0
        exact ⟨⟨_, rfl⟩, .inl ⟨pre, HP.out, HJ.out⟩⟩

end Go.Proofs.Ytacendjemomkfaa
