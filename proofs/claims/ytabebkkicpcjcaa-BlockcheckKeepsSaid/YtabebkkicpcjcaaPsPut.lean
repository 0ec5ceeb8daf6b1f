/-
  Stores into a list of pairs of one's own.
-/
import Derived.Test.YtabebkkicpcjcaaPk3
namespace Go.Proofs.Ytabebkkicpcjcaa
open Go.RowKit
set_option linter.unusedVariables false

theorem prs_set (l : List Pr) (k : Nat) (y1 y2 : Int) (hk : k < l.length) : ((prs l).set (k * 2) (.int .i64 y1)).set (k * 2 + 1) (.int .i64 y2) = prs (l.set k (y1, y2)) := by
  induction l generalizing k with
  | nil => simp at hk
  | cons x r ih =>
    rcases k with _ | k
    · simp [prs]
    · have := ih k (by simpa using hk)
      rw [show (k + 1) * 2 = k * 2 + 1 + 1 by omega]
      simp only [prs, List.flatMap_cons, List.cons_append, List.nil_append, List.set_cons_succ] at *
      rw [this]

/-- A pair stored into a list of one's own. -/
theorem PL.put {w W : World} {g c n : Nat} {l : List Pr} (h : PL w (.slice (some ⟨g, 0, none⟩) n c) l W) (hn : l.length = n) {k : Nat} (hk : k < l.length) (y1 y2 : Int) :
    PL w (.slice (some ⟨g, 0, none⟩) n c) (l.set k (y1, y2)) ((W.setCell ⟨g, k * 2, none⟩ (.int .i64 y1)).setCell ⟨g, k * 2 + 1, none⟩ (.int .i64 y2)) := by
  subst hn
  have hg := (ownS_lt h.own g rfl).1
  have h1 := ownS_put h.own (g := g) rfl (j := k * 2) (by rw [prs_length]; omega) (.int .i64 y1)
  have h2 := ownS_put h1 (g := g) rfl (j := k * 2 + 1) (by rw [List.length_set, prs_length]; omega) (.int .i64 y2)
  rw [prs_set l k y1 y2 hk] at h2
  exact ⟨by rw [List.length_set]; exact h2, (h.blw.setCell (p := ⟨g, _, none⟩) hg _).setCell (p := ⟨g, _, none⟩) hg _⟩

theorem own_fr {w W : World} {g c n : Nat} {l : List Pr} (h : PL w (.slice (some ⟨g, 0, none⟩) n c) l W) (i : Nat) : W.frozen? ⟨g, i, none⟩ = false := by
  rcases h.own.2 with ⟨h0, _⟩ | ⟨g', cap, cur, hv, hg', hh, _⟩
  · cases h0
  · injection hv with e1 e2 e3
    injection e1 with e1
    injection e1 with e1 _
    subst e1
    exact Row.frozen (T := 48) (cs := cur) hh _

/-- A register stored into a pair of a list of one's own. -/
theorem PL.put1 {w W : World} {g c n : Nat} {l : List Pr} (h : PL w (.slice (some ⟨g, 0, none⟩) n c) l W) (hn : l.length = n) {k : Nat} (hk : k < l.length) (y1 : Int) :
    PL w (.slice (some ⟨g, 0, none⟩) n c) (l.set k (y1, l[k].2)) (W.setCell ⟨g, k * 2, none⟩ (.int .i64 y1)) := by
  subst hn
  have hg := (ownS_lt h.own g rfl).1
  have h1 := ownS_put h.own (g := g) rfl (j := k * 2) (by rw [prs_length]; omega) (.int .i64 y1)
  have e : (prs l).set (k * 2) (.int .i64 y1) = prs (l.set k (y1, l[k].2)) := by
    rw [← prs_set l k y1 l[k].2 hk]
    refine (List.set_getElem_self ?_ |>.symm.trans (congrArg _ ?_))
    · rw [List.length_set, prs_length]; omega
    · have := (prs_get hk).2
      rw [List.getElem_set_ne (by omega)]
      exact (List.getElem?_eq_some_iff.1 this).2
  rw [e] at h1
  exact ⟨by rw [List.length_set]; exact h1, h.blw.setCell (p := ⟨g, _, none⟩) hg _⟩

end Go.Proofs.Ytabebkkicpcjcaa
