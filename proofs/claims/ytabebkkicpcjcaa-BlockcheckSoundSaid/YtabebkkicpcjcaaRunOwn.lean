/-
  Slices of integers that a call owns: small laws.
-/
import Derived.Test.YtabebkkicpcjcaaRunMem
import Derived.Test.YtabebkkicpcjcaaPk1
namespace Go.Proofs.Ytabebkkicpcjcaa
open Go.RowKit
set_option linter.unusedVariables false

theorem own_row_ne {w : World} {lo n p : Nat} {e T : TypeId} {v : Value} {xs : List Value} {cs : Array Value} (h : w.ownsRow lo e 1 v n xs) (hr : Row w p T cs) (hT : e ≠ T) : ∀ k, v.ownBlock = some k → k ≠ p := by
  intro k hk e1
  subst e1
  rcases h.2 with ⟨rfl, _⟩ | ⟨a, cap, cur, rfl, _, h1, _⟩
  · cases hk
  · simp only [Value.ownBlock, Option.some.injEq] at hk
    subst hk
    unfold Row at hr
    rw [h1] at hr
    simp only [Option.some.injEq, Obj.cells.injEq] at hr
    exact hT hr.2.1
theorem regs_at {w : World} {lo : Nat} {e : TypeId} {c n k : Nat} {l : List Int} {A : Option Addr} (h : w.ownsRow lo e 1 (.slice A n c) n (ints l)) (hk : k < l.length) : ∃ g, A = some ⟨g, 0, none⟩ ∧ w.cell? ⟨g, k, none⟩ = some (.int .i64 (rg l (k : Int))) := by
  rw [rg_nat hk]
  rcases h.2 with ⟨h0, h1⟩ | ⟨g, cap, cur, hv, _, hg, _⟩
  · have := h.1
    rw [ints_length] at this
    injection h0 with _ h2 _
    omega
  · injection hv with hA
    subst hA
    exact ⟨g, rfl, by have := h.cells (g := g) rfl k _ (ints_get hk); simpa [Addr.add_lit] using this⟩
theorem blwq {B q : Nat} {a W : World} (h : Below B a W) (hq : B ≤ q) (i : Nat) (u : Value) : Below B a (W.setCell ⟨q, i, none⟩ u) := h.setCell (p := ⟨q, i, none⟩) hq u
end Go.Proofs.Ytabebkkicpcjcaa
