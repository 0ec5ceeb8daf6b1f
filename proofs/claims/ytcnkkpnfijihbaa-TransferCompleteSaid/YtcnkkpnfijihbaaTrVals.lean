/-
  The pairs that hold for values of registers and locations, and what becomes of them.
-/
import Derived.Test.YtcnkkpnfijihbaaTrMath
namespace Go.Proofs.Ytcnkkpnfijihbaa
set_option linter.unusedVariables false

/-- The pairs of a register that hold, among the first locations. -/
def knR (r s : List Int) (v : Nat) (t : Nat) : List Pr := (List.range t).filterMap fun t => if r.getD v 0 = s.getD t 0 then some ((v : Int), (t : Int)) else none
/-- The pairs of the first registers that hold. -/
def knU (r s : List Int) (k : Nat) : List Pr := (List.range k).flatMap fun v => knR r s v s.length
/-- The pairs that hold. -/
def knP (r s : List Int) : List Pr := knU r s r.length

theorem knR_zero (r s : List Int) (v : Nat) : knR r s v 0 = [] := rfl
theorem knR_succ (r s : List Int) (v t : Nat) : knR r s v (t + 1) = knR r s v t ++ if r.getD v 0 = s.getD t 0 then [((v : Int), (t : Int))] else [] := by
  unfold knR
  rw [List.range_succ, List.filterMap_append]
  by_cases h : r.getD v 0 = s.getD t 0
  · simp only [List.filterMap_cons, List.filterMap_nil, if_pos h]
  · simp only [List.filterMap_cons, List.filterMap_nil, if_neg h]
theorem knU_zero (r s : List Int) : knU r s 0 = [] := rfl
theorem knU_succ (r s : List Int) (k : Nat) : knU r s (k + 1) = knU r s k ++ knR r s k s.length := by
  unfold knU
  rw [List.range_succ, List.flatMap_append, List.flatMap_singleton]
theorem knR_len (r s : List Int) (v t : Nat) : (knR r s v t).length ≤ t := by
  unfold knR
  exact Nat.le_trans (List.length_filterMap_le _ _) (by simp)
theorem knU_len (r s : List Int) : ∀ k : Nat, (knU r s k).length ≤ k * s.length
  | 0 => by simp [knU]
  | k + 1 => by
    rw [knU_succ, List.length_append, Nat.succ_mul]
    have := knU_len r s k
    have := knR_len r s k s.length
    omega

/-- A pair of a register and a location within bounds, with the same value. -/
def HoldP (r s : List Int) (q : Pr) : Prop := ∃ v t : Nat, q = ((v : Int), (t : Int)) ∧ v < r.length ∧ t < s.length ∧ r.getD v 0 = s.getD t 0

theorem mem_knP {r s : List Int} {q : Pr} : q ∈ knP r s ↔ HoldP r s q := by
  unfold knP knU knR HoldP
  simp only [List.mem_flatMap, List.mem_range, List.mem_filterMap]
  constructor
  · rintro ⟨v, hv, t, ht, h⟩
    by_cases e : r.getD v 0 = s.getD t 0
    · rw [if_pos e] at h
      exact ⟨v, t, (Option.some.inj h).symm, hv, ht, e⟩
    · rw [if_neg e] at h
      cases h
  · rintro ⟨v, t, rfl, hv, ht, e⟩
    exact ⟨v, hv, t, ht, by rw [if_pos e]⟩

theorem knR_srt (r s : List Int) (v t : Nat) : Srt (knR r s v t) := by
  unfold Srt knR
  rw [List.pairwise_filterMap]
  refine List.pairwise_lt_range.imp fun {a b} hab x hx y hy => ?_
  split at hx <;> simp at hx
  split at hy <;> simp at hy
  subst hx hy
  rw [ltP_iff]
  dsimp only
  omega
theorem mem_knR {r s : List Int} {v t : Nat} {q : Pr} (h : q ∈ knR r s v t) : q.1 = (v : Int) := by
  unfold knR at h
  obtain ⟨a, _, ha⟩ := List.mem_filterMap.1 h
  split at ha <;> simp at ha
  rw [← ha]
theorem knP_srt (r s : List Int) : Srt (knP r s) := by
  unfold knP knU Srt
  rw [List.pairwise_flatMap]
  refine ⟨fun v _ => knR_srt r s v s.length, List.pairwise_lt_range.imp fun {a b} hab x hx y hy => ?_⟩
  have h1 := mem_knR hx
  have h2 := mem_knR hy
  rw [ltP_iff]
  omega

theorem getD_set_ne {l : List Int} {i j : Nat} (h : i ≠ j) (x : Int) : (l.set i x).getD j 0 = l.getD j 0 := by
  simp [List.getD, List.getElem?_set_ne h]
theorem getD_set_eq {l : List Int} {i : Nat} (h : i < l.length) (x : Int) : (l.set i x).getD i 0 = x := by
  simp [List.getD, h]

/-- What a copy keeps true. -/
theorem cp_hold {r s : List Int} {l : List Pr} {x y : Nat} (hl : ∀ q ∈ l, HoldP r s q) (hx : x < r.length) : ∀ q ∈ cpP l x y, HoldP (r.set x (r.getD y 0)) s q := by
  intro q hq
  rcases mem_cpP.1 hq with ⟨h1, h2⟩ | ⟨h1, h2⟩
  · obtain ⟨v, t, rfl, hv, ht, e⟩ := hl q h1
    refine ⟨v, t, rfl, by rw [List.length_set]; exact hv, ht, ?_⟩
    by_cases hxv : x = v
    · subst hxv
      rw [getD_set_eq hx]
      have hxy : x = y := by
        rcases h2 with h2 | h2
        · omega
        · exact absurd rfl h2
      subst hxy
      exact e
    · rw [getD_set_ne hxv]
      exact e
  · obtain ⟨v, t, e0, hv, ht, e⟩ := hl _ h2
    obtain ⟨q1, q2⟩ := q
    injection e0 with e1 e2
    dsimp only at h1 h2 e1 e2
    have hyv : y = v := by omega
    subst hyv
    refine ⟨x, t, by rw [h1, e2], by rw [List.length_set]; exact hx, ht, ?_⟩
    rw [getD_set_eq hx]
    exact e
theorem mv_hold {r s : List Int} {l : List Pr} {x y : Nat} (hl : ∀ q ∈ l, HoldP r s q) (hx : x < s.length) : ∀ q ∈ mvP l x y, HoldP r (s.set x (s.getD y 0)) q := by
  intro q hq
  rcases mem_mvP.1 hq with ⟨h1, h2⟩ | ⟨h1, h2⟩
  · obtain ⟨v, t, rfl, hv, ht, e⟩ := hl q h1
    refine ⟨v, t, rfl, hv, by rw [List.length_set]; exact ht, ?_⟩
    by_cases hxv : x = t
    · subst hxv
      rw [getD_set_eq hx]
      have hxy : x = y := by
        rcases h2 with h2 | h2
        · omega
        · exact absurd rfl h2
      subst hxy
      exact e
    · rw [getD_set_ne hxv]
      exact e
  · obtain ⟨v, t, e0, hv, ht, e⟩ := hl _ h2
    obtain ⟨q1, q2⟩ := q
    injection e0 with e1 e2
    dsimp only at h1 h2 e1 e2
    have hyv : y = t := by omega
    subst hyv
    refine ⟨v, x, by rw [h1, e1], hv, by rw [List.length_set]; exact hx, ?_⟩
    rw [getD_set_eq hx]
    exact e
theorem df_hold {r s : List Int} {l : List Pr} {x p : Nat} (z : Int) (hl : ∀ q ∈ l, HoldP r s q) (hx : x < r.length) (hp : p < s.length) : ∀ q ∈ dfP l x p, HoldP (r.set x z) (s.set p z) q := by
  intro q hq
  rcases mem_dfP.1 hq with ⟨h1, h2, h3⟩ | rfl
  · obtain ⟨v, t, rfl, hv, ht, e⟩ := hl q h1
    dsimp only at h2 h3
    refine ⟨v, t, rfl, by rw [List.length_set]; exact hv, by rw [List.length_set]; exact ht, ?_⟩
    rw [getD_set_ne (by omega), getD_set_ne (by omega)]
    exact e
  · refine ⟨x, p, rfl, by rw [List.length_set]; exact hx, by rw [List.length_set]; exact hp, ?_⟩
    rw [getD_set_eq hx, getD_set_eq hp]

/-- If exactly the pairs of a set hold, a copy's, a move's, a definition's result has all that hold afterwards. -/
theorem cp_full {r s : List Int} {x y : Nat} (hx : x < r.length) (hy : y < r.length) : cpP (knP r s) x y = knP (r.set x (r.getD y 0)) s := by
  refine srt_ext (cpP_srt (knP_srt r s) _ _) (knP_srt _ _) fun q => ⟨fun h => mem_knP.2 (cp_hold (fun q h => mem_knP.1 h) hx q h), fun h => ?_⟩
  obtain ⟨v, t, rfl, hv, ht, e⟩ := mem_knP.1 h
  rw [List.length_set] at hv
  refine mem_cpP.2 ?_
  by_cases hxv : x = v
  · subst hxv
    rw [getD_set_eq hx] at e
    exact .inr ⟨rfl, mem_knP.2 ⟨y, t, rfl, hy, ht, e⟩⟩
  · rw [getD_set_ne hxv] at e
    exact .inl ⟨mem_knP.2 ⟨v, t, rfl, hv, ht, e⟩, .inr (by dsimp only; omega)⟩
theorem mv_full {r s : List Int} {x y : Nat} (hx : x < s.length) (hy : y < s.length) : mvP (knP r s) x y = knP r (s.set x (s.getD y 0)) := by
  refine srt_ext (mvP_srt (knP_srt r s) _ _) (knP_srt _ _) fun q => ⟨fun h => mem_knP.2 (mv_hold (fun q h => mem_knP.1 h) hx q h), fun h => ?_⟩
  obtain ⟨v, t, rfl, hv, ht, e⟩ := mem_knP.1 h
  rw [List.length_set] at ht
  refine mem_mvP.2 ?_
  by_cases hxv : x = t
  · subst hxv
    rw [getD_set_eq hx] at e
    exact .inr ⟨rfl, mem_knP.2 ⟨v, y, rfl, hv, hy, e⟩⟩
  · rw [getD_set_ne hxv] at e
    exact .inl ⟨mem_knP.2 ⟨v, t, rfl, hv, ht, e⟩, .inr (by dsimp only; omega)⟩
theorem getD_mem {l : List Int} {i : Nat} (h : i < l.length) : l.getD i 0 ∈ l := by
  simp [List.getD, h]
theorem df_full {r s : List Int} {x p : Nat} {z : Int} (hr : ∀ u ∈ r, u ≠ z) (hs : ∀ u ∈ s, u ≠ z) (hx : x < r.length) (hp : p < s.length) : dfP (knP r s) x p = knP (r.set x z) (s.set p z) := by
  refine srt_ext (dfP_srt _ _ _) (knP_srt _ _) fun q => ⟨fun h => mem_knP.2 (df_hold z (fun q h => mem_knP.1 h) hx hp q h), fun h => ?_⟩
  obtain ⟨v, t, rfl, hv, ht, e⟩ := mem_knP.1 h
  rw [List.length_set] at hv ht
  refine mem_dfP.2 ?_
  by_cases hxv : x = v
  · subst hxv
    rw [getD_set_eq hx] at e
    by_cases hpt : p = t
    · subst hpt
      exact .inr rfl
    · rw [getD_set_ne hpt] at e
      exact absurd e.symm (hs _ (getD_mem ht))
  · rw [getD_set_ne hxv] at e
    by_cases hpt : p = t
    · subst hpt
      rw [getD_set_eq hp] at e
      exact absurd e (hr _ (getD_mem hv))
    · rw [getD_set_ne hpt] at e
      exact .inl ⟨mem_knP.2 ⟨v, t, rfl, hv, ht, e⟩, by dsimp only; omega, by dsimp only; omega⟩

end Go.Proofs.Ytcnkkpnfijihbaa
