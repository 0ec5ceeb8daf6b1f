/-
  Words for memory: values that show lists of bytes, a slice of byte slices that is seen, and one that a call owns.
-/
import Derived.Test.YtgipdebkikldaaaMem
import Derived.Test.YtgipdebkikldaaaSecMath
namespace Go.Proofs.Ytgipdebkikldaaa
open Go.RowKit
set_option linter.unusedVariables false

/-- The values vs are byte slices below block B that show the lists xs. -/
def Cells (w : World) (B : Nat) (vs : List Value) (xs : List (List Nat)) : Prop :=
  vs.length = xs.length ∧ ∀ (i : Nat) (x : List Nat), xs[i]? = some x → ∃ A c, vs[i]? = some (Value.slice A x.length c) ∧ x.length ≤ c ∧ c ≤ maxLen ∧ Sees w B A (bts x)
/-- The slice address A shows byte slices that show the lists xs, all below block B. -/
def SeesL (w : World) (B : Nat) (A : Option Addr) (xs : List (List Nat)) : Prop := ∃ vs, Sees w B A vs ∧ Cells w B vs xs

section
variable {w w' : World} {B B' : Nat} {A : Option Addr} {vs : List Value} {xs : List (List Nat)}
theorem Cells.nil (w : World) (B : Nat) : Cells w B [] [] := ⟨rfl, fun i x h => by simp at h⟩
theorem Cells.keep (h : Cells w B vs xs) (hk : ∀ p : Addr, p.block < B → w'.cell? p = w.cell? p) : Cells w' B vs xs :=
  ⟨h.1, fun i x hx => by
    obtain ⟨A, c, h1, h2, h3, h4⟩ := h.2 i x hx
    exact ⟨A, c, h1, h2, h3, h4.keep hk⟩⟩
theorem Cells.more (h : Cells w B vs xs) (hB : B ≤ B') : Cells w B' vs xs :=
  ⟨h.1, fun i x hx => by
    obtain ⟨A, c, h1, h2, h3, h4⟩ := h.2 i x hx
    exact ⟨A, c, h1, h2, h3, h4.more hB⟩⟩
theorem Cells.below (h : Cells w B vs xs) (hb : Below B w w') : Cells w' B vs xs := h.keep fun _ hp => hb.cell hp
theorem Cells.drewN (h : Cells w B vs xs) (n : Nat) : Cells (w.drewN n) B vs xs := h.keep fun _ _ => rfl
theorem Cells.snoc (h : Cells w B vs xs) {A : Option Addr} {x : List Nat} {c : Nat} (hc : x.length ≤ c) (hm : c ≤ maxLen) (hs : Sees w B A (bts x)) : Cells w B (vs ++ [Value.slice A x.length c]) (xs ++ [x]) := by
  refine ⟨by simp [h.1], fun i y hy => ?_⟩
  rcases Nat.lt_trichotomy i xs.length with hi | hi | hi
  · rw [List.getElem?_append_left hi] at hy
    obtain ⟨A, c, h1, h2⟩ := h.2 i y hy
    exact ⟨A, c, by rw [List.getElem?_append_left (by rw [h.1]; exact hi)]; exact h1, h2⟩
  · subst hi
    rw [List.getElem?_append_right (Nat.le_refl _), Nat.sub_self] at hy
    injection hy with hy
    subst hy
    exact ⟨A, c, by rw [List.getElem?_append_right (by rw [h.1]; exact Nat.le_refl _), h.1, Nat.sub_self]; rfl, hc, hm, hs⟩
  · rw [List.getElem?_eq_none (by simp; omega)] at hy
    cases hy
theorem Cells.one (h : Cells w B vs xs) : ∀ u ∈ vs, u.oneCell' = true := by
  intro u hu
  obtain ⟨i, hi, rfl⟩ := List.getElem_of_mem hu
  have hi' : i < xs.length := by rw [← h.1]; exact hi
  obtain ⟨A, c, h1, _⟩ := h.2 i xs[i] (List.getElem?_eq_getElem hi')
  rw [List.getElem?_eq_getElem hi] at h1
  injection h1 with h1
  rw [h1]
  rfl

theorem SeesL.keep (h : SeesL w B A xs) (hk : ∀ p : Addr, p.block < B → w'.cell? p = w.cell? p) : SeesL w' B A xs := by
  obtain ⟨vs, h1, h2⟩ := h
  exact ⟨vs, h1.keep hk, h2.keep hk⟩
theorem SeesL.more (h : SeesL w B A xs) (hB : B ≤ B') : SeesL w B' A xs := by
  obtain ⟨vs, h1, h2⟩ := h
  exact ⟨vs, h1.more hB, h2.more hB⟩
theorem SeesL.below (h : SeesL w B A xs) (hb : Below B w w') : SeesL w' B A xs := h.keep fun _ hp => hb.cell hp
theorem SeesL.drewN (h : SeesL w B A xs) (n : Nat) : SeesL (w.drewN n) B A xs := h.keep fun _ _ => rfl
theorem SeesL.alloc (h : SeesL w B A xs) (hB : B ≤ w.heap.size) (o : Obj) : SeesL (w.alloc o) B A xs := h.keep fun p hp => World.cell?_alloc_lt w o p (by omega)
theorem SeesL.nil : SeesL w B A [] := ⟨[], Sees.nil, Cells.nil w B⟩
theorem SeesL.at_ (h : SeesL w B A xs) {i : Nat} (hi : i < xs.length) :
    ∃ b o Ai ci, A = some ⟨b, o, none⟩ ∧ b < B ∧ w.cell? ⟨b, o + i, none⟩ = some (.slice Ai xs[i].length ci) ∧ xs[i].length ≤ ci ∧ ci ≤ maxLen ∧ Sees w B Ai (bts xs[i]) := by
  obtain ⟨vs, h1, h2, h3⟩ := h
  obtain ⟨Ai, ci, h4, h5, h6, h7⟩ := h3 i xs[i] (List.getElem?_eq_getElem hi)
  obtain ⟨b, o, hA, hb, hc⟩ := h1 (by intro e; subst e; simp at h4)
  exact ⟨b, o, Ai, ci, hA, hb, hc i _ h4, h5, h6, h7⟩
end

theorem infoSl : (Try.prog.info? 22).map (fun i => (i.zero, i.size, i.bytes)) = some (some (.slice none 0 0), 1, 24) := by kernel_rfl

/-- A byte slice, seen at length n. -/
theorem Sees.len {w : World} {B : Nat} {A : Option Addr} {l : List Nat} (h : Sees w B A (bts l)) (h0 : A = none) : l = [] := by
  rcases l with _ | ⟨x, r⟩
  · rfl
  · obtain ⟨b, o, e, _⟩ := h (by simp [bts])
    rw [h0] at e
    cases e

end Go.Proofs.Ytgipdebkikldaaa
