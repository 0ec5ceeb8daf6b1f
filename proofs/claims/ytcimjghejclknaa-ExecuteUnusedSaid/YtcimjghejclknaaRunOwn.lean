/-
  Slices of integers that a call owns: small laws.
-/
import Derived.Test.YtcimjghejclknaaRunMem
namespace Go.Proofs.Ytcimjghejclknaa
open Go.RowKit
set_option linter.unusedVariables false

theorem own_row_ne {w : World} {lo n p : Nat} {e T : TypeId} {v : Value} {xs : List Value} {cs : Array Value} (h : w.ownsRow lo e 1 v n xs) (hr : Row w p T cs) (hT : e ≠ T) : ∀ k, v.ownBlock = some k → k ≠ p := by
  intro k hk e1
  subst e1
  rcases h.2 with ⟨rfl, _⟩ | ⟨a, cap, cur, rfl, _, h1, _⟩
  · cases hk
  · simp only [Value.ownBlock, Option.some.injEq] at hk
    subst hk
    unfold Row at hr
    rw [h1] at hr
    simp only [Option.some.injEq, Obj.cells.injEq] at hr
    exact hT hr.2.1
theorem regs_at {w : World} {lo : Nat} {e : TypeId} {c n k : Nat} {l : List Int} {A : Option Addr} (h : w.ownsRow lo e 1 (.slice A n c) n (ints l)) (hk : k < l.length) : ∃ g, A = some ⟨g, 0, none⟩ ∧ w.cell? ⟨g, k, none⟩ = some (.int .i64 (rg l (k : Int))) := by
  rw [rg_nat hk]
  rcases h.2 with ⟨h0, h1⟩ | ⟨g, cap, cur, hv, _, hg, _⟩
  · have := h.1
    rw [ints_length] at this
    injection h0 with _ h2 _
    omega
  · injection hv with hA
    subst hA
    exact ⟨g, rfl, by have := h.cells (g := g) rfl k _ (ints_get hk); simpa [Addr.add_lit] using this⟩
theorem ints_set (l : List Int) (k : Nat) (v : Int) : ints (l.set k v) = (ints l).set k (.int .i64 v) := by simp [ints, List.map_set]
theorem own_frozen {w : World} {lo : Nat} {e : TypeId} {n s g k : Nat} {v : Value} {xs : List Value} (h : w.ownsRow lo e s v n xs) (hg : v.ownBlock = some g) : w.frozen? ⟨g, k, none⟩ = false := by
  rcases h.2 with ⟨rfl, _⟩ | ⟨g', cap, cur, rfl, _, hh, _⟩
  · cases hg
  · simp only [Value.ownBlock, Option.some.injEq] at hg
    subst hg
    exact Row.frozen (T := e) (cs := cur) hh k
theorem blwq {B q : Nat} {a W : World} (h : Below B a W) (hq : B ≤ q) (i : Nat) (u : Value) : Below B a (W.setCell ⟨q, i, none⟩ u) := h.setCell (p := ⟨q, i, none⟩) hq u
/-- A slice of 64-bit integers that came in: its elements as a list. -/
theorem IsRow.ints {w : World} {a : Option Addr} {len cap : Nat} {zs : List Int} (h : IsRow .i64 w a len cap zs) :
    ∃ l : List Int, l.length = len ∧ (∀ v ∈ l, InI v) ∧ Sees w w.heap.size a (ints l) ∧ len ≤ cap ∧ cap ≤ maxLen := by
  rcases h with ⟨rfl, rfl, rfl, rfl⟩ | ⟨x, rfl, h1, h2, h3, h4, h5⟩
  · exact ⟨[], rfl, fun v hv => by simp at hv, Sees.nil, Nat.le_refl _, Nat.zero_le _⟩
  · refine ⟨zs.take len, by simp; omega, fun v hv => i64_of_wf (h5 v (List.mem_of_mem_take hv)), fun hn => ?_, h1, h2⟩
    have hl : 0 < len := by
      rcases Nat.eq_zero_or_pos len with h0 | h0
      · subst h0; simp [Go.Proofs.Ytcimjghejclknaa.ints] at hn
      · exact h0
    have hc0 := h4 0 (by omega)
    obtain ⟨b, o, s⟩ := x
    have hs : s = none := by simpa [Addr.add] using World.cell?_spot hc0
    subst hs
    refine ⟨b, o, rfl, World.block_lt_of_cell? w _ (by simpa [Addr.add] using hc0), fun i u hu => ?_⟩
    have hi : i < (zs.take len).length := by
      rcases Nat.lt_or_ge i (zs.take len).length with h0 | h0
      · exact h0
      · rw [List.getElem?_eq_none (by rw [ints_length]; exact h0)] at hu; cases hu
    rw [ints_get hi] at hu
    have hz : i < zs.length := by have := List.length_take_le len zs; simp at hi; omega
    have := h4 i hz
    rw [Addr.add_lit] at this
    rw [this, ← hu]
    simp [List.getD, hz]

end Go.Proofs.Ytcimjghejclknaa
