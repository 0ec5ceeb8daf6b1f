/-
  Successors: the list is in memory of its own.
-/
import Derived.Test.YtcoehkphdfejjaaGreatPk1
namespace Go.Proofs.YtcoehkphdfejjaaGreat
open Go.RowKit
set_option linter.unusedVariables false

def IntsN (w : World) (l : List Int) (e : Ending) (w' : World) : Prop := ∃ A c, e = .returned (.slice A l.length c) ∧ l.length ≤ c ∧ c ≤ maxLen ∧ Sees w' w'.heap.size A (ints l) ∧ Below w.heap.size w w' ∧ ∀ a : Addr, A = some a → w.heap.size ≤ a.block

set_option maxRecDepth 100000 in
set_option maxHeartbeats 1000000 in
theorem succ_own (t : Tm) (w : World) :
    Calls Tryz.prog 27 #[.agg #[.int .i64 t.kind, .int .i64 t.a, .int .i64 t.to, .int .i64 t.el]] w (IntsN w (succs t)) := by
  have HB := Lib.hid ((Below.refl w.heap.size w).alloc (Nat.le_refl _) (.cells #[.int .i64 t.kind, .int .i64 t.a, .int .i64 t.to, .int .i64 t.el] 47))
  by_cases h1 : t.kind = 1
  · have e1 : (t.kind == 1) = true := by simp [h1]
    have HS : Hid (succs t = [t.to]) := by rw [Hid, succs, if_pos h1]
    clear h1
    go_enter Tryz.func27, Tryz.ntmps27
    go_wp2
    go_ret
    refine ⟨some ⟨w.heap.size + 1, 0, none⟩, 1, by rw [HS.out]; rfl, by rw [HS.out]; exact Nat.le_refl _, by decide, sees_new1 (by simp) _ _ (by rw [HS.out]; rfl), HB.out.alloc HB.out.size _, fun a e => by cases e; show w.heap.size ≤ w.heap.size + 1; omega⟩
  · have e1 : (t.kind == 1) = false := by simp [h1]
    by_cases h2 : t.kind = 2
    · have e2 : (t.kind == 2) = true := by simp [h2]
      have HS : Hid (succs t = [t.to, t.el]) := by rw [Hid, succs, if_neg h1, if_pos h2]
      clear h1 h2
      go_enter Tryz.func27, Tryz.ntmps27
      go_wp2
      go_ret
      refine ⟨some ⟨w.heap.size + 1, 0, none⟩, 2, by rw [HS.out]; rfl, by rw [HS.out]; exact Nat.le_refl _, by decide, sees_new1 (by simp) _ _ (by rw [HS.out]; rfl), HB.out.alloc HB.out.size _, fun a e => by cases e; show w.heap.size ≤ w.heap.size + 1; omega⟩
    · have e2 : (t.kind == 2) = false := by simp [h2]
      have HS : Hid (succs t = []) := by rw [Hid, succs, if_neg h1, if_neg h2]
      clear h1 h2
      go_enter Tryz.func27, Tryz.ntmps27
      go_wp2
      go_ret
      refine ⟨none, 0, by rw [HS.out]; rfl, by rw [HS.out]; exact Nat.le_refl _, by decide, ?_, HB.out, fun a e => by cases e⟩
      rw [HS.out]
      exact Sees.nil

/-- What is seen stays, where no block of it is turned. -/
theorem sees_mods {w w' : World} {B : Nat} {A : Option Addr} {xs : List Value} {S : Nat → Prop} (h : Sees w B A xs) (hm : Mods S w w') (hB : B ≤ w.heap.size) (hn : ∀ a : Addr, A = some a → ¬ S a.block) : Sees w' B A xs := fun hx => by
  obtain ⟨b, o, e, hb, hc⟩ := h hx
  exact ⟨b, o, e, hb, fun i u hu => (hm.cell (p := ⟨b, o + i, none⟩) (by show b < _; omega) (show ¬ S b from hn ⟨b, o, none⟩ e)).trans (hc i u hu)⟩

end Go.Proofs.YtcoehkphdfejjaaGreat
