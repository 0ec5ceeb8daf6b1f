/-
  An own allocated function's blocks, as memory shows them (taken out of XCkOwn).
-/
import Derived.Test.YtcoehkphdfejjaaMacCopy
namespace Go.Proofs.Ytcoehkphdfejjaa
open Go.RowKit
set_option linter.unusedVariables false

theorem nest_mblks {w : World} {base : Nat} {v : Value} {vs : List Value} {bs : List MBlk} (h : NestV mshp w base v vs bs) (hok : ∀ x ∈ bs, ∀ y ∈ x.code, y.Ok) : ∃ A c, v = .slice A bs.length c ∧ bs.length ≤ c ∧ c ≤ maxLen ∧ MBlksAt w w.heap.size A bs := by
  have ho := h.outer
  obtain ⟨A, c, rfl, h1, h2⟩ := ownS_slice ho
  rw [h.len] at h1
  refine ⟨A, c, by rw [h.len], h1, h2, fun hn => ?_⟩
  have hg := flat_get (fun p : Value × MBlk => mshp.oc p.1 p.2) 5 (fun _ => rfl) (vs.zip bs)
  have hz : ∀ i x, bs[i]? = some x → ∃ u, vs[i]? = some u ∧ (vs.zip bs)[i]? = some (u, x) := fun i x hx => by
    have hi : i < bs.length := (List.getElem?_eq_some_iff.1 hx).1
    have hi' : i < vs.length := by rw [h.len]; exact hi
    refine ⟨vs[i], List.getElem?_eq_getElem hi', ?_⟩
    rw [List.getElem?_zip_eq_some]
    exact ⟨List.getElem?_eq_getElem hi', hx⟩
  have hne : (vs.zip bs).flatMap (fun p => mshp.oc p.1 p.2) ≠ [] := by
    rcases bs with _ | ⟨x, r⟩
    · exact absurd rfl hn
    · obtain ⟨u, _, hu⟩ := hz 0 x rfl
      intro e
      have := hg 0 (u, x) hu 0 u rfl
      rw [e] at this
      cases this
  obtain ⟨b, o, e, hb, hc⟩ := sees_own ho hne
  refine ⟨b, o, e, hb, fun i x hx => ?_⟩
  obtain ⟨u, hu, hux⟩ := hz i x hx
  have hin := h.inner i u x hu hx
  obtain ⟨A', c', rfl, h3, h4⟩ := ownS_slice hin
  refine ⟨⟨A', c', hc _ _ (hg i _ hux 0 _ rfl), h3, h4, MisAt.of_own hin (hok x (List.mem_of_getElem? hx))⟩, ?_, ?_, ?_, ?_⟩
  · rw [Nat.add_assoc]; exact hc _ _ (hg i _ hux 1 _ rfl)
  · rw [Nat.add_assoc]; exact hc _ _ (hg i _ hux 2 _ rfl)
  · rw [Nat.add_assoc]; exact hc _ _ (hg i _ hux 3 _ rfl)
  · rw [Nat.add_assoc]; exact hc _ _ (hg i _ hux 4 _ rfl)

end Go.Proofs.Ytcoehkphdfejjaa
