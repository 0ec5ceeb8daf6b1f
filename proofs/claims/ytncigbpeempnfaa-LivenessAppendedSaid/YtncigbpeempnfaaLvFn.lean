/-
  Valid small functions are such that the contracts ask for; numbers and lists of lists compared.
-/
import Derived.Test.YtncigbpeempnfaaLvOut
import Derived.Test.YtncigbpeempnfaaSrcFew
import Derived.Test.YtncigbpeempnfaaPk2
import Derived.Test.YtncigbpeempnfaaPk1
namespace Go.Proofs.Ytncigbpeempnfaa
open Go.RowKit
set_option linter.unusedVariables false

theorem use_in {N : Nat} {x : Blk} (h : BlkOk N x) {v : Int} (hv : bUse x v = true) : 0 ≤ v ∧ v < N := by
  have hk : ∀ k, k ≤ x.code.length → lvU x.code v k = true → 0 ≤ v ∧ v < N := by
    intro k
    induction k with
    | zero => intro _ h; cases h
    | succ k ih =>
      intro hk hu
      rw [lvU_succ _ _ _ (by omega), Bool.or_eq_true, Bool.and_eq_true, iUse, Bool.or_eq_true, Bool.and_eq_true, Bool.and_eq_true] at hu
      obtain ⟨ha, hb, _⟩ := h.1 _ (List.getElem_mem (by omega : k < x.code.length))
      rcases hu with hu | ⟨⟨h1, h2⟩ | ⟨h1, h2⟩, _⟩
      · exact ih (by omega) hu
      · have h2 := beq_iff_eq.1 h2; rw [← h2]; exact ha h1
      · have h2 := beq_iff_eq.1 h2; rw [← h2]; exact hb h1
  rw [bUse, Bool.or_eq_true, Bool.and_eq_true, tUse, Bool.and_eq_true] at hv
  rcases hv with hv | ⟨⟨h1, h2⟩, _⟩
  · exact hk _ (Nat.le_refl _) hv
  · have h2 := beq_iff_eq.1 h2
    rcases h.2 with h3 | ⟨_, h3, h4⟩
    · rw [h3] at h1; cases h1
    · rw [← h2]; exact ⟨h3, h4⟩

theorem def_in {N : Nat} {x : Blk} (h : BlkOk N x) {v : Int} (hv : bDef x v = true) : 0 ≤ v ∧ v < N := by
  rw [bDef, lvD, List.take_of_length_le (Nat.le_refl _), List.any_eq_true] at hv
  obtain ⟨i, hi, hd⟩ := hv
  rw [iDef, Bool.and_eq_true] at hd
  have h2 := beq_iff_eq.1 hd.2
  rw [← h2]
  exact (h.1 i hi).2.2 hd.1

theorem blkOk_of {N : Nat} {bs : List Blk} (hF : OkF N bs) (hO : Ops bs) : ∀ b ∈ bs, BlkOk N b := fun b hb => by
  refine ⟨fun i hi => ?_, ?_⟩
  · obtain ⟨_, h1, h2, h3⟩ := hF.ins b hb i hi
    refine ⟨fun _ => ⟨h1, h2⟩, fun hu => ?_, fun hu => ?_⟩
    · rcases h3 with h3 | ⟨_, _, _, h4, h5⟩
      · rw [h3] at hu; cases hu
      · exact ⟨h4, h5⟩
    · rcases h3 with h3 | ⟨_, h4, h5, _⟩
      · rw [h3] at hu; cases hu
      · exact ⟨h4, h5⟩
  · rcases hF.tm b hb with ⟨h1, _⟩ | ⟨h1, h2, h3, _⟩ | ⟨h1, h2, h3⟩
    · exact .inl h1
    · exact .inr ⟨.inl h1, h2, h3⟩
    · exact .inr ⟨.inr h1, h2, h3⟩

theorem fnOk {N : Nat} {bs : List Blk} (hF : OkF N bs) (hO : Ops bs) (hm : bs.length ≤ 100000) (hN : N ≤ 100000) (hc : codeN bs ≤ 100000000) : FnOk N bs where
  ne := hF.ne
  hm := hm
  hN := hN
  code b hb := by
    obtain ⟨i, hi, rfl⟩ := List.getElem_of_mem hb
    exact Nat.le_trans (codeN_mem bs i hi) hc
  succ b hb := succs_lt (hF.tm b hb)
  ok := blkOk_of hF hO
  use i hi z hz := use_in (blkOk_of hF hO _ (blkAt_mem hi)) hz

theorem num_at (B : Nat) {W : World} {A A' : Option Addr} (l r : List Int) (n m c c' : Nat) (v : Bool) (hl : l.length = n) (hr : r.length = m) (hs : Sees W B A (ints l)) (hs' : Sees W B A' (ints r)) (hm : n ≤ 1000000) (hm' : m ≤ 1000000) (hv : sameI l r = v) :
    Calls Try.prog 13 #[.slice A n c, .slice A' m c'] W fun e w' => e = .returned (.bool v) ∧ ∃ n, W.drewN n = w' := by
  subst hl
  subst hr
  subst hv
  exact numbers_any B A A' l r c c' W hs hs' (by unfold maxLen; omega) (by unfold maxLen; omega)

theorem same_at23 (B : Nat) {W : World} {A A' : Option Addr} (xs ys : List (List Int)) (n m c c' : Nat) (v : Bool) (hl : xs.length = n) (hr : ys.length = m) (hs : SeesII W B A xs) (hs' : SeesII W B A' ys) (hm : n ≤ 1000000) (hm' : m ≤ 1000000) (hv : decide (xs = ys) = v) :
    Calls Try.prog 16 #[.slice A n c, .slice A' m c'] W fun e w' => e = .returned (.bool v) ∧ ∃ n, W.drewN n = w' := by
  subst hl
  subst hr
  subst hv
  exact rsame23_any B A A' xs ys c c' W hs hs' (by unfold maxLen; omega) (by unfold maxLen; omega)

theorem blw_drewN' {w w' : World} (h : ∃ n, w.drewN n = w') : Below w.heap.size w w' := by
  obtain ⟨n, rfl⟩ := h
  exact ⟨rfl, rfl, rfl, Nat.le_refl _, fun _ _ => rfl⟩

/-- What In and Out return is seen. -/
theorem LLP.see {w w' : World} {n : Nat} {F : Nat → List Int} {e : Ending} (h : LLP w n F e w') : ∃ A, e = .returned (.slice A n n) ∧ SeesII w' w'.heap.size A (fL23 F n) ∧ Below w.heap.size w w' := by
  obtain ⟨g, _, rfl, ⟨vs, hv⟩, hb⟩ := h
  obtain ⟨A, c, e, _, _, hs⟩ := nest_ii hv
  injection e with e _ _
  exact ⟨_, rfl, by rw [e]; exact hs, hb⟩

theorem IL0.see {w w' : World} {A : Option Addr} {n c : Nat} {l : List Int} (h : IL0 w (.slice A n c) l w') : n = l.length ∧ Sees w' w'.heap.size A (ints l) := by
  obtain ⟨A', c', e, _⟩ := ownS_slice h.own
  injection e with e1 e2 e3
  subst e2
  exact ⟨rfl, sees_own h.own⟩

end Go.Proofs.Ytncigbpeempnfaa
