/-
  Successors of both; the reference's Numbers.
-/
import Derived.Test.YtfkknebjhcafhaaSrcMath
import Derived.Test.YtfkknebjhcafhaaFn
import Derived.Test.YtfkknebjhcafhaaMem
import Derived.LoopTactic
import Derived.Below
namespace Go.Proofs.Ytfkknebjhcafhaa
open Go.RowKit
set_option linter.unusedVariables false

/-- Integers as cells. -/
def ints (l : List Int) : List Value := l.map fun x => Value.int .i64 x
theorem ints_get {l : List Int} {k : Nat} (h : k < l.length) : (ints l)[k]? = some (.int .i64 l[k]) := by simp [ints, h]
theorem ints_ne {l : List Int} {k : Nat} (h : k < l.length) : ints l ≠ [] := by
  intro e
  have := congrArg List.length e
  simp [ints] at this
  subst this
  simp at h
theorem ints_at {w : World} {B : Nat} {A : Option Addr} {l : List Int} (h : Sees w B A (ints l)) {k : Nat} (hk : k < l.length) : ∃ b o, A = some ⟨b, o, none⟩ ∧ b < B ∧ w.cell? ⟨b, o + k, none⟩ = some (.int .i64 l[k]) := by
  obtain ⟨b, o, e, hb, hc⟩ := h (ints_ne hk)
  exact ⟨b, o, e, hb, hc k _ (ints_get hk)⟩

/-- A list of integers, in memory of its own. -/
def IntsP (w : World) (l : List Int) (e : Ending) (w' : World) : Prop := ∃ A c, e = .returned (.slice A l.length c) ∧ l.length ≤ c ∧ c ≤ maxLen ∧ Sees w' w'.heap.size A (ints l) ∧ Below w.heap.size w w'

theorem sees_new1 {W : World} {p : Nat} (hp : W.heap.size = p) (cs : Array Value) (t : TypeId) {xs : List Value} (hx : xs = cs.toList) : Sees (W.alloc (.cells cs t)) (W.alloc (.cells cs t)).heap.size (some ⟨p, 0, none⟩) xs := by
  subst hp
  subst hx
  exact (sees_new W cs t).more (by simp)

set_option maxRecDepth 100000 in
set_option maxHeartbeats 1000000 in
theorem succ_any (t : Tm) (w : World) :
    Calls Try.prog 39 #[.agg #[.int .i64 t.kind, .int .i64 t.a, .int .i64 t.to, .int .i64 t.el]] w (IntsP w (succs t)) := by
  have HB := Lib.hid ((Below.refl w.heap.size w).alloc (Nat.le_refl _) (.cells #[.int .i64 t.kind, .int .i64 t.a, .int .i64 t.to, .int .i64 t.el] 44))
  by_cases h1 : t.kind = 1
  · have e1 : (t.kind == 1) = true := by simp [h1]
    have HS : Hid (succs t = [t.to]) := by rw [Hid, succs, if_pos h1]
    clear h1
    go_enter Try.func39, Try.ntmps39
    go_wp2
    go_ret
    refine ⟨some ⟨w.heap.size + 1, 0, none⟩, 1, by rw [HS.out]; rfl, by rw [HS.out]; exact Nat.le_refl _, by decide, sees_new1 (by simp) _ _ (by rw [HS.out]; rfl), HB.out.alloc HB.out.size _⟩
  · have e1 : (t.kind == 1) = false := by simp [h1]
    by_cases h2 : t.kind = 2
    · have e2 : (t.kind == 2) = true := by simp [h2]
      have HS : Hid (succs t = [t.to, t.el]) := by rw [Hid, succs, if_neg h1, if_pos h2]
      clear h1 h2
      go_enter Try.func39, Try.ntmps39
      go_wp2
      go_ret
      refine ⟨some ⟨w.heap.size + 1, 0, none⟩, 2, by rw [HS.out]; rfl, by rw [HS.out]; exact Nat.le_refl _, by decide, sees_new1 (by simp) _ _ (by rw [HS.out]; rfl), HB.out.alloc HB.out.size _⟩
    · have e2 : (t.kind == 2) = false := by simp [h2]
      have HS : Hid (succs t = []) := by rw [Hid, succs, if_neg h1, if_neg h2]
      clear h1 h2
      go_enter Try.func39, Try.ntmps39
      go_wp2
      go_ret
      refine ⟨none, 0, by rw [HS.out]; rfl, by rw [HS.out]; exact Nat.le_refl _, by decide, ?_, HB.out⟩
      rw [HS.out]
      exact Sees.nil

def sameI (l r : List Int) : Bool := decide (l = r)
theorem sameI_self (l : List Int) : sameI l l = true := by simp [sameI]
theorem sameI_yes {l r : List Int} (h : l = r) : sameI l r = true := by simp [sameI, h]
theorem sameI_no {l r : List Int} (h : l ≠ r) : sameI l r = false := by simp [sameI, h]
theorem sameI_end {l r : List Int} (hl : l.length = r.length) {k : Nat} (hk : l.length ≤ k) (h : l.take k = r.take k) : l = r := by
  rwa [List.take_of_length_le hk, List.take_of_length_le (by omega)] at h
theorem sameI_step {l r : List Int} {k : Nat} (h : l.take k = r.take k) (hl : k < l.length) (hr : k < r.length) (he : l[k] = r[k]) : l.take (k + 1) = r.take (k + 1) := by
  rw [List.take_succ_eq_append_getElem hl, List.take_succ_eq_append_getElem hr, h, he]

end Go.Proofs.Ytfkknebjhcafhaa
