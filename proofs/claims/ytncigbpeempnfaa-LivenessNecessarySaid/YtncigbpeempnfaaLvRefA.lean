/-
  The reference's Defines, Used and Has.
-/
import Derived.Test.YtncigbpeempnfaaLvMath
import Derived.LoopTactic
import Derived.Deep.Cut
import Derived.Deep.CutRange
import Derived.Below
namespace Go.Proofs.Ytncigbpeempnfaa
open Go.RowKit
set_option linter.unusedVariables false

theorem eqb {a b : Int} (h : a = b) : (a == b) = true := by simp [h]

theorem neb {a b : Int} (h : ¬ a = b) : (a == b) = false := by simp [h]

set_option maxRecDepth 100000 in
set_option maxHeartbeats 1000000 in
theorem rdef23_any (A : Option Addr) (x : Blk) (c : Nat) (v : Int) (k : Nat) (w : World) (hs : InsAt w w.heap.size A x.code) (hk : k ≤ x.code.length) (hm : x.code.length ≤ 100000000) :
    Calls Try.prog 12 #[.agg #[.slice A x.code.length c, .int .i64 x.term.kind, .int .i64 x.term.a, .int .i64 x.term.to, .int .i64 x.term.el], .int .i64 v, .int .i64 k] w fun e w' => e = .returned (.bool (lvD x.code v k)) ∧ Below w.heap.size w w' := by
  obtain ⟨xs, ⟨kk, ta, tt, el⟩⟩ := x
  dsimp only at *
  have HX := Lib.hid (Row.new w 34 #[.slice A xs.length c, .int .i64 kk, .int .i64 ta, .int .i64 tt, .int .i64 el])
  have hb0 : Below w.heap.size w (w.alloc (.cells #[.slice A xs.length c, .int .i64 kk, .int .i64 ta, .int .i64 tt, .int .i64 el] 34)) := (Below.refl _ _).alloc (Nat.le_refl _) _
  have hs0 := hs.below hb0
  have HB0 := Lib.hid hb0
  clear hs hb0
  go_enter Try.func12, Try.ntmps12
  go_upto_region 1 with fail
  generalize (w.alloc (.cells #[.slice A xs.length c, .int .i64 kk, .int .i64 ta, .int .i64 tt, .int .i64 el] 34)) = W0 at *
  obtain ⟨b1, hb1⟩ : ∃ z, w.heap.size = z := ⟨_, rfl⟩
  rw [hb1] at HX hs0
  rw [hb1]
  have HB1 := Lib.hid hb1
  clear hb1
  go_upto_region 2 with fail
  go_loopw [7] (fun i wr => ∃ j : Nat, j ≤ k ∧ i = .int .i64 j ∧ Hid (lvD xs v j = false) ∧ wr = W0) (fun i _ => k - (intOf i).toNat)
  case atStart => exact ⟨0, Nat.zero_le _, rfl, lvD_zero _ _, rfl⟩
  case round =>
    obtain ⟨j, hj, rfl, HD, rfl⟩ := hrel
    have y0 := HX.out.k0
    by_cases hlt : j < k
    · have hjl : j < xs.length := by omega
      obtain ⟨b', o, rfl, hb, hx⟩ := hs0.at_ hjl
      have HN := Lib.hid (lvD_succ xs v j hjl)
      generalize xs[j] = x at *
      obtain ⟨op, d, a, b, imm⟩ := x
      have f0 := hx.c0; have f1 := hx.c1
      dsimp only at f0 f1
      clear hx
      cases hu : uD op
      · have HF : Hid (lvD xs v (j + 1) = false) := by rw [Hid, HN.out, HD.out, iDef, hu]; rfl
        have HU := Lib.hid hu
        clear HN hu
        go_wp2_with (go_at_call 34; refine (rusesD_any op _ _ HU.out).mono ?_; rintro e w' ⟨rfl, rfl⟩)
        go_roundw
        case rel => exact ⟨j + 1, by omega, by go_num, HF.out, by trivial⟩
        case measure => simp [intOf]; omega
      · have HU := Lib.hid hu
        by_cases hd : d = v
        · have e1 := eqb hd
          have HF : Hid (lvD xs v (j + 1) = true) := by rw [Hid, HN.out, HD.out, iDef, hu, e1]; rfl
          have HT : Hid (lvD xs v k = true) := by
            rw [Hid, lvD, List.any_eq_true]
            have := HF.out
            rw [lvD, List.any_eq_true] at this
            obtain ⟨z, hz, h⟩ := this
            exact ⟨z, (List.take_subset_take_left xs (by omega)) hz, h⟩
          clear HN hu hd HF
          go_wp2_with (go_at_call 34; refine (rusesD_any op _ _ HU.out).mono ?_; rintro e w' ⟨rfl, rfl⟩)
          go_ret
          exact ⟨by rw [HT.out]; rfl, HB0.out⟩
        · have e1 := neb hd
          have HF : Hid (lvD xs v (j + 1) = false) := by rw [Hid, HN.out, HD.out, iDef, hu, e1]; rfl
          clear HN hu hd
          go_wp2_with (go_at_call 34; refine (rusesD_any op _ _ HU.out).mono ?_; rintro e w' ⟨rfl, rfl⟩)
          go_roundw
          case rel => exact ⟨j + 1, by omega, by go_num, HF.out, by trivial⟩
          case measure => simp [intOf]; omega
    · obtain rfl : j = k := by omega
      go_wp2
      go_ret
      exact ⟨by rw [HD.out]; rfl, HB0.out⟩

set_option maxRecDepth 100000 in
set_option maxHeartbeats 1000000 in
theorem rhas23_any (B : Nat) (A : Option Addr) (l : List Int) (c : Nat) (v : Int) (w : World) (hs : Sees w B A (ints l)) (hm : l.length ≤ maxLen) :
    Calls Try.prog 22 #[.slice A l.length c, .int .i64 v] w fun e w' => e = .returned (.bool (decide (v ∈ l))) ∧ w' = w := by
  unfold maxLen at hm
  go_enter Try.func22, Try.ntmps22
  go_wp2
  go_loopw [5] (fun i wr => ∃ j : Nat, j ≤ l.length ∧ i = .int .i64 j ∧ Hid (¬ v ∈ l.take j) ∧ wr = w) (fun i _ => l.length - (intOf i).toNat)
  case atStart => exact ⟨0, Nat.zero_le _, rfl, by simp [Hid], rfl⟩
  case round =>
    obtain ⟨j, hj, rfl, HD, rfl⟩ := hrel
    by_cases hlt : j < l.length
    · obtain ⟨b, o, rfl, _, hcell⟩ := ints_at hs hlt
      have HT := Lib.hid (List.take_succ_eq_append_getElem hlt)
      have HI := Lib.hid (List.getElem_mem hlt)
      generalize l[j] = x at *
      by_cases hx : x = v
      · have e1 := eqb hx
        have HF : Hid (decide (v ∈ l) = true) := by subst hx; exact decide_eq_true HI.out
        clear HT HI hx hs
        go_wp2
        go_ret
        exact ⟨by rw [HF.out]; rfl, rfl⟩
      · have e1 := neb hx
        have HF : Hid (¬ v ∈ l.take (j + 1)) := by
          rw [Hid, HT.out, List.mem_append, List.mem_singleton]
          rintro (h | h)
          · exact HD.out h
          · exact hx h.symm
        clear HT HI hx
        go_wp2
        go_roundw
        case rel => exact ⟨j + 1, by omega, by go_num, HF.out, by trivial⟩
        case measure => simp [intOf]; omega
    · have HF : Hid (decide (v ∈ l) = false) := by
        have := HD.out
        rw [List.take_of_length_le (by omega)] at this
        exact decide_eq_false this
      clear HD hs
      go_wp2
      go_ret
      exact ⟨by rw [HF.out]; rfl, rfl⟩

end Go.Proofs.Ytncigbpeempnfaa
