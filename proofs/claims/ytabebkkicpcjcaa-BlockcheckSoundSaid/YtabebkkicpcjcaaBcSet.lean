/-
  The set of pairs that the statement on soundness starts from, as data.
-/
import Derived.Test.YtabebkkicpcjcaaBcSim
import Derived.Test.YtabebkkicpcjcaaPk6
namespace Go.Proofs.Ytabebkkicpcjcaa
open Go.RowKit
set_option linter.unusedVariables false

/-- The pairs so far: in order, each of them holding; all before (v, l). -/
structure BInv (nR nS : Nat) (x yr ys : List Int) (v l : Nat) (o : List Pr) : Prop where
  srt : Srt o
  lo : ∀ q ∈ o, q.1 < (v : Int) ∨ (q.1 = (v : Int) ∧ q.2 < (l : Int))
  hs : ∀ q ∈ o, 0 ≤ q.1 ∧ q.1 < 20 ∧ LocOk nR nS q.2 ∧ rd2 yr ys q.2 = rg x q.1
section
variable {nR nS : Nat} {x yr ys : List Int} {v l : Nat} {o : List Pr}
theorem BInv.nil : BInv nR nS x yr ys 0 0 [] := ⟨Srt.nil, fun q h => (by cases h), fun q h => (by cases h)⟩
theorem BInv.skip (h : BInv nR nS x yr ys v l o) : BInv nR nS x yr ys v (l + 1) o := ⟨h.srt, fun q hq => by have := h.lo q hq; omega, h.hs⟩
theorem BInv.row (h : BInv nR nS x yr ys v l o) : BInv nR nS x yr ys (v + 1) 0 o := ⟨h.srt, fun q hq => by have := h.lo q hq; omega, h.hs⟩
theorem BInv.push (h : BInv nR nS x yr ys v l o) (hv : v < 20) (hl : LocOk nR nS (l : Int)) (he : rd2 yr ys (l : Int) = rg x (v : Int)) : BInv nR nS x yr ys v (l + 1) (o ++ [((v : Int), (l : Int))]) :=
  ⟨h.srt.snoc fun y hy => by rw [ltP_iff]; exact h.lo y hy, fun q hq => by
    rcases List.mem_append.1 hq with hq | hq
    · have := h.lo q hq
      omega
    · rw [List.mem_singleton] at hq
      subst hq
      exact .inr ⟨rfl, by show (l : Int) < ((l + 1 : Nat) : Int); omega⟩, fun q hq => by
    rcases List.mem_append.1 hq with hq | hq
    · exact h.hs q hq
    · rw [List.mem_singleton] at hq
      subst hq
      exact ⟨by show (0 : Int) ≤ (v : Int); omega, by show (v : Int) < 20; omega, hl, he⟩⟩
theorem BInv.pin (h : BInv nR nS x yr ys v l o) (hr : nR ≤ 20) (hs : nS ≤ 20) : PIn (regsR []) (locsL []) o := fun q hq => by
  obtain ⟨a, b, c, _⟩ := h.hs q hq
  exact ⟨regsR_in [] _ a b, locsL_in [] hr hs _ c⟩
theorem BInv.len (h : BInv nR nS x yr ys v l o) (hr : nR ≤ 20) (hs : nS ≤ 20) : o.length ≤ 820 := (h.pin hr hs).len h.srt
theorem BInv.hold (h : BInv nR nS x yr ys v l o) (hx : x.length = 20) : HoldS nR nS o x yr ys := fun q hq => by
  obtain ⟨a, b, c, d⟩ := h.hs q hq
  exact ⟨a, by rw [hx]; exact b, c, d⟩
end
/-- A location's value, by its halves. -/
theorem rd2_even {yr ys : List Int} {l h : Nat} (e : l = 2 * h) : rd2 yr ys (l : Int) = yr.getD h 0 := by
  unfold rd2 rg
  rw [if_neg (by omega), show ((l : Int) / 2).toNat = h by omega]
theorem rd2_odd {yr ys : List Int} {l h : Nat} (e : l = 2 * h + 1) : rd2 yr ys (l : Int) = ys.getD h 0 := by
  unfold rd2 rg
  rw [if_pos (by omega), show ((l : Int) / 2).toNat = h by omega]
theorem locOk_even {nR nS l h : Nat} (e : l = 2 * h) (hl : h < nR) : LocOk nR nS (l : Int) := ⟨by omega, .inr ⟨by omega, by omega⟩⟩
theorem locOk_odd {nR nS l h : Nat} (e : l = 2 * h + 1) (hl : h < nS) : LocOk nR nS (l : Int) := ⟨by omega, .inl ⟨by omega, by omega⟩⟩

end Go.Proofs.Ytabebkkicpcjcaa
