/-
  The program's Missing and Subset.
-/
import Derived.Test.YthehcdajedaefaaPsMis
namespace Go.Proofs.Ythehcdajedaefaa
open Go.RowKit
set_option linter.unusedVariables false

/-- What is left of b while Missing goes through a. -/
structure BAt (w : World) (B : Nat) (b : List Pr) (j n : Nat) (A : Option Addr) (c : Nat) : Prop where
  len : n + j = b.length
  cap : n ≤ c
  cmx : c ≤ maxLen
  see : Sees w B A (prs (b.drop j))

theorem BAt.get {w : World} {B : Nat} {b : List Pr} {j n : Nat} {A : Option Addr} {c : Nat} (h : BAt w B b j n A c) (hn : 0 < n) : ∃ bb oo, A = some ⟨bb, oo, none⟩ ∧ bb < B ∧ w.cell? ⟨bb, oo, none⟩ = some (.int .i64 (b[j]'(by have := h.len; omega)).1) ∧ w.cell? ⟨bb, oo + 1, none⟩ = some (.int .i64 (b[j]'(by have := h.len; omega)).2) := by
  have hl := h.len
  obtain ⟨bb, oo, e, hb, h0, h1⟩ := sees_pair h.see (i := 0) (by simp; omega)
  simp only [Nat.zero_mul, Nat.add_zero, List.getElem_drop] at h0 h1
  exact ⟨bb, oo, e, hb, h0, h1⟩

theorem BAt.next {w : World} {B : Nat} {b : List Pr} {j n bb oo : Nat} {c : Nat} (h : BAt w B b j (n + 1) (some ⟨bb, oo, none⟩) c) {A' : Option Addr} (hA : A' = if c = 1 then some ⟨bb, oo, none⟩ else some ⟨bb, oo + 2, none⟩) : BAt w B b (j + 1) n A' (c - 1) := by
  have hl := h.len
  have hc := h.cap
  have hm := h.cmx
  refine ⟨by omega, by omega, by omega, fun hn => ?_⟩
  have hn0 : 0 < n := by
    rcases Nat.eq_zero_or_pos n with h0 | h0
    · subst h0
      rw [List.drop_of_length_le (by omega)] at hn
      exact absurd rfl hn
    · exact h0
  rw [if_neg (by omega)] at hA
  obtain ⟨b1, o1, e, hb, hcell⟩ := h.see (by
    intro e
    have := congrArg List.length e
    rw [prs_length, List.length_drop, List.length_nil] at this
    omega)
  injection e with e
  injection e with e1 e2
  subst e1
  subst e2
  refine ⟨bb, oo + 2, hA, hb, fun i u hu => ?_⟩
  rw [Nat.add_assoc]
  refine hcell _ u ?_
  have e3 : prs (b.drop (j + 1)) = (prs (b.drop j)).drop (1 * 2) := by rw [prs_drop, List.drop_drop]
  rw [e3, List.getElem?_drop] at hu
  exact hu

theorem srt_lt_all {b : List Pr} (h : Srt b) {j : Nat} {p : Pr} (hj : j < b.length) (h1 : ∀ y ∈ b.take j, ltP y p = true) (h2 : ltP b[j] p = false) (h3 : b[j] ≠ p) : p ∉ b := by
  intro hp
  rw [← List.take_append_drop j b, List.mem_append, drop_head hj] at hp
  rcases hp with hp | hp | hp
  · have := h1 p hp
    rw [ltP_irrefl] at this
    cases this
  · exact h3 hp.symm
  · have := h.head_lt hj hp
    rw [h2] at this
    cases this

end Go.Proofs.Ythehcdajedaefaa
