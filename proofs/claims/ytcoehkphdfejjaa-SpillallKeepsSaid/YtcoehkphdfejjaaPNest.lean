/-
  Lists of lists of pairs of one's own, as memory shows them (taken out of XCkCopy and XCkOwn).
-/
import Derived.Test.YtcoehkphdfejjaaPk1
import Derived.Test.YtcoehkphdfejjaaPpIn
namespace Go.Proofs.Ytcoehkphdfejjaa
open Go.RowKit
set_option linter.unusedVariables false
set_option linter.unusedSimpArgs false

/-- Lists of pairs as elements. -/
def pshp : Shp (List Pr) where
  eo := 63
  ei := 66
  so := 1
  si := 2
  oc := fun u _ => [u]
  ic := prs
  il := List.length
  ne := by decide
  hoc := fun _ _ => rfl

theorem poc_one (y : List Pr) (A : Option Addr) (n c : Nat) : ∀ u ∈ pshp.oc (.slice A n c) y, u.oneCell' = true := by
  intro u hu
  simp only [pshp, List.mem_cons, List.not_mem_nil, or_false] at hu
  subst hu
  rfl

theorem infoPl : (Try.prog.info? 63).map (fun i => (i.zero, i.size, i.bytes)) = some (some (.slice none 0 0), 1, 24) := by kernel_rfl

theorem pp_flat (vs : List Value) (xs : List (List Pr)) (h : vs.length = xs.length) : ((vs.zip xs).flatMap fun p => pshp.oc p.1 p.2) = vs := by
  induction vs generalizing xs with
  | nil => rfl
  | cons v vs ih =>
    rcases xs with _ | ⟨x, xs⟩
    · cases h
    · rw [List.zip_cons_cons, List.flatMap_cons, ih xs (by simpa using h)]
      rfl

theorem nest_pp {w : World} {base : Nat} {v : Value} {vs : List Value} {xs : List (List Pr)} (h : NestV pshp w base v vs xs) : ∃ A c, v = .slice A xs.length c ∧ xs.length ≤ c ∧ c ≤ maxLen ∧ SeesPP w w.heap.size A xs := by
  have ho := h.outer
  obtain ⟨A, c, rfl, h1, h2⟩ := ownS_slice ho
  rw [h.len] at h1
  refine ⟨A, c, by rw [h.len], h1, h2, vs, ?_, h.len, fun i x hx => ?_⟩
  · have := sees_own ho
    rw [pp_flat vs xs h.len] at this
    exact this
  · have hi : i < vs.length := by rw [h.len]; exact (List.getElem?_eq_some_iff.1 hx).1
    have hu : vs[i]? = some vs[i] := List.getElem?_eq_getElem hi
    have hin := h.inner i _ x hu hx
    obtain ⟨A', c', e, h3, h4⟩ := ownS_slice hin
    rw [e] at hin
    exact ⟨A', c', by rw [hu, e]; rfl, h3, h4, sees_own hin⟩

end Go.Proofs.Ytcoehkphdfejjaa
