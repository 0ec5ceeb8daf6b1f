/-
  The reference's Same of layer 15, of equal lists.
-/
import Derived.Test.YthehcdajedaefaaPpIn
import Derived.Test.YthehcdajedaefaaPsSame
import Derived.Test.YthehcdajedaefaaPk2
import Derived.BigQuiet
import Derived.Shelf.SlSortCmp.QuietGrown
namespace Go.Proofs.Ythehcdajedaefaa
open Go.RowKit
set_option linter.unusedVariables false
set_option linter.unusedSimpArgs false

set_option maxRecDepth 100000 in
set_option maxHeartbeats 16000000 in
theorem rsame15_any (B : Nat) (A A' : Option Addr) (xs : List (List Pr)) (c c' : Nat) (w : World) (hs : SeesPP w B A xs) (hs' : SeesPP w B A' xs) (hB : B ≤ w.heap.size) (hm : xs.length ≤ 1000) :
    Calls Try.prog 11 #[.slice A xs.length c, .slice A' xs.length c'] w fun e w' => e = .returned (.bool true) ∧ Grew w w' := by
  have mixed : Try.prog.follows .mixedOrders = true := by kernel_rfl
  have H1 := Lib.hid hs
  have H2 := Lib.hid hs'
  clear hs hs'
  have e1 : ((xs.length : Int) != (xs.length : Int)) = false := by simp
  go_enter Try.func11, Try.ntmps11
  go_upto_region 3 with fail
  go_wp2
  go_loopg [5] xs.length (fun g s5 wr => ∃ k : Nat, k + g = xs.length ∧ s5 = .int .i64 (k : Int) ∧ Hid (Grew w wr))
  case atStart => exact ⟨0, by omega, by go_num, Grew.refl w⟩
  case round =>
    obtain ⟨k, hgk, rfl, HG⟩ := hrel
    by_cases hk : k < xs.length
    · have hkz : (k : Int) < (xs.length : Int) := by omega
      have K1 := (H1.out.below (HG.out.below.mono hB))
      have K2 := (H2.out.below (HG.out.below.mono hB))
      obtain ⟨p1, o1, Ai, ci, rfl, hp1, q1, q11, q12, q13⟩ := K1.at_ hk
      obtain ⟨p2, o2, Aj, cj, rfl, hp2, q2, q21, q22, q23⟩ := K2.at_ hk
      have hz := HG.out.below.size
      have C2 : Hid (∀ (W : World) n os, wr = W → Calls Try.prog 28 #[.slice Ai xs[k].length ci, .slice Aj xs[k].length cj] (Go.Sort.grow (W.drewN n) os) fun e w' => e = .returned (.bool true) ∧ ∃ q os', w' = Go.Sort.grow ((Go.Sort.grow (W.drewN n) os).drewN q) os') := fun W n os hW => by
        subst hW
        have hg : Grew wr (Go.Sort.grow (wr.drewN n) os) := ⟨n, os, rfl⟩
        have h := prsame_any B Ai Aj xs[k] xs[k] ci cj (Go.Sort.grow (wr.drewN n) os) (q13.below (hg.below.mono (by omega))) (q23.below (hg.below.mono (by omega))) (Nat.le_trans q11 q12) (Nat.le_trans q11 q12)
        rw [show decide (xs[k] = xs[k]) = true by simp] at h
        exact h
      generalize xs[k].length = L at *
      have gq1 := fun n os => Go.cell_grown (World.block_lt_of_cell? _ _ q1) q1 n os
      have gq2 := fun n os => Go.cell_grown (World.block_lt_of_cell? _ _ q2) q2 n os
      clear q11 q12 q13 q21 q22 q23
      go_upto_region 6 with fail
      go_quiet_grown (first | (go_at_call 28; refine Calls.grown_of (C2.out _ _ _ rfl)))
      have HG2 : Hid (Grew wr (Go.Sort.grow (wr.drewN nq) osq)) := ⟨nq, osq, rfl⟩
      generalize Go.Sort.grow (wr.drewN nq) osq = W4 at *
      have HG4 := Lib.hid (HG.out.trans HG2.out)
      clear gq1 gq2 C2 q1 q2 K1 K2 HG HG2
      go_wp2
      go_roundg (xs.length - (k + 1))
      case measure => omega
      case rel => exact ⟨k + 1, by omega, by go_num, HG4.out⟩
    · have hkz : ¬ (k : Int) < (xs.length : Int) := by omega
      go_wp2
      go_ret
      exact ⟨rfl, HG.out⟩

end Go.Proofs.Ythehcdajedaefaa
