/-
  A slice of byte slices that a call owns, together with what its elements hold: no two share a block.
-/
import Derived.Test.YtgipdebkikldaaaSecMem
import Derived.Test.YtgipdebkikldaaaWri
namespace Go.Proofs.Ytgipdebkikldaaa
open Go.RowKit
set_option linter.unusedVariables false

theorem own_base {w : World} {base base' n : Nat} {e : TypeId} {v : Value} {xs : List Value} (h : w.ownsRow base e 1 v n xs) (hb : base' ≤ base) : w.ownsRow base' e 1 v n xs :=
  ⟨h.1, by
    rcases h.2 with h | ⟨g, cap, cur, h1, h2, h3⟩
    · exact .inl h
    · exact .inr ⟨g, cap, cur, h1, Nat.le_trans hb h2, h3⟩⟩
theorem own_ne {w : World} {base base' n m : Nat} {e e' : TypeId} {v u : Value} {xs ys : List Value} (h : w.ownsRow base e 1 v n xs) (k : w.ownsRow base' e' 1 u m ys) (he : e ≠ e') (g : Nat) (hv : v.ownBlock = some g) (hu : u.ownBlock = some g) : False := by
  rcases h.2 with ⟨rfl, _⟩ | ⟨a, cap, cur, rfl, _, h1, _⟩
  · cases hv
  · rcases k.2 with ⟨rfl, _⟩ | ⟨b, cap', cur', rfl, _, h2, _⟩
    · cases hu
    · simp only [Value.ownBlock, Option.some.injEq] at hv hu
      subst hv
      rw [hu] at h2
      rw [h1] at h2
      simp only [Option.some.injEq, Obj.cells.injEq] at h2
      exact he h2.2.1

structure LstV (w : World) (base : Nat) (v : Value) (vs : List Value) (xs : List (List Nat)) : Prop where
  outer : w.ownsRow base 22 1 v vs.length vs
  len : vs.length = xs.length
  inner : ∀ (i : Nat) (u : Value) (x : List Nat), vs[i]? = some u → xs[i]? = some x → w.ownsRow base 5 1 u x.length (bts x)
  dist : ∀ (i j : Nat) (u u' : Value) (g : Nat), vs[i]? = some u → vs[j]? = some u' → u.ownBlock = some g → u'.ownBlock = some g → i = j
def Lst (w : World) (base : Nat) (v : Value) (xs : List (List Nat)) : Prop := ∃ vs, LstV w base v vs xs

section
variable {w w' w0 : World} {base : Nat} {v v' u : Value} {vs : List Value} {xs : List (List Nat)} {x : List Nat}
theorem LstV.nil (w : World) (base : Nat) : LstV w base (.slice none 0 0) [] [] :=
  ⟨⟨rfl, .inl ⟨rfl, rfl⟩⟩, rfl, fun i u x h => by simp at h, fun i j u u' g h => by simp at h⟩
theorem LstV.get (h : LstV w base v vs xs) {i : Nat} {u : Value} (hu : vs[i]? = some u) : ∃ x, xs[i]? = some x ∧ w.ownsRow base 5 1 u x.length (bts x) := by
  have hi : i < vs.length := (List.getElem?_eq_some_iff.1 hu).1
  have hi' : i < xs.length := by rw [← h.len]; exact hi
  exact ⟨xs[i], List.getElem?_eq_getElem hi', h.inner i u _ hu (List.getElem?_eq_getElem hi')⟩
theorem LstV.mods {S : Nat → Prop} (h : LstV w base v vs xs) (hm : Mods S w w') (hS : ∀ k, base ≤ k → k < w.heap.size → ¬ S k) : LstV w' base v vs xs :=
  ⟨hm.own h.outer fun k hk => by
      have := own_lt h.outer k hk
      exact hS k this.1 this.2, h.len,
    fun i u x h1 h2 => hm.own (h.inner i u x h1 h2) fun k hk => by
      have := own_lt (h.inner i u x h1 h2) k hk
      exact hS k this.1 this.2, h.dist⟩
theorem LstV.rebase (h : LstV w base v vs xs) {base' : Nat} (hb : base' ≤ base) : LstV w base' v vs xs :=
  ⟨own_base h.outer hb, h.len, fun i u x h1 h2 => own_base (h.inner i u x h1 h2) hb, h.dist⟩
theorem Lst.mods {S : Nat → Prop} (h : Lst w base v xs) (hm : Mods S w w') (hS : ∀ k, base ≤ k → k < w.heap.size → ¬ S k) : Lst w' base v xs := by
  obtain ⟨vs, h⟩ := h
  exact ⟨vs, h.mods hm hS⟩
theorem Lst.below (h : Lst w base v xs) (hb : Below w.heap.size w w') : Lst w' base v xs := h.mods (S := No) (Mods.of_below hb) fun _ _ _ h => h
theorem Lst.rebase (h : Lst w base v xs) {base' : Nat} (hb : base' ≤ base) : Lst w base' v xs := by
  obtain ⟨vs, h⟩ := h
  exact ⟨vs, h.rebase hb⟩

/-- One more element, made since, is appended. -/
theorem LstV.snoc {S : Nat → Prop} (h : LstV w0 base v vs xs) (hm : Mods S w0 w) (hS : ∀ k, S k → k < base) (hb : base ≤ w0.heap.size) (hu : w.ownsRow w0.heap.size 5 1 u x.length (bts x)) (o : Obj)
    (ho : w'.ownsRow base 22 1 v' (vs.length + 1) (vs ++ [u])) (hg : (w.alloc o).grownBy w' v.ownBlock) : LstV w' base v' (vs ++ [u]) (xs ++ [x]) := by
  have hS' : ∀ k, base ≤ k → k < w0.heap.size → ¬ S k := fun k h1 _ h3 => by have := hS k h3; omega
  have h1 := h.mods hm hS'
  have hG : Mods (fun k => v.ownBlock = some k) w w' := ((Mods.refl _ _).alloc o).grown hg fun k hk => .inl hk
  have hne : (22 : TypeId) ≠ 5 := by decide
  have hnew : ∀ (i : Nat) (u' : Value), vs[i]? = some u' → ∀ g, u'.ownBlock = some g → u.ownBlock = some g → False := fun i u' hi g h2 h3 => by
    obtain ⟨x', _, hx'⟩ := h.get hi
    have a := own_lt hx' g h2
    have b := own_lt hu g h3
    omega
  refine ⟨by rw [List.length_append]; exact ho, by simp [h.len], fun i u' y hi hy => ?_, fun i j a b g hi hj ha hb => ?_⟩
  · rcases Nat.lt_trichotomy i vs.length with hl | hl | hl
    · rw [List.getElem?_append_left hl] at hi
      rw [List.getElem?_append_left (by rw [← h.len]; exact hl)] at hy
      have hin := h1.inner i u' y hi hy
      exact hG.own hin fun k hk hs => own_ne h1.outer hin hne k hs hk
    · subst hl
      rw [List.getElem?_append_right (Nat.le_refl _), Nat.sub_self] at hi
      rw [h.len, List.getElem?_append_right (Nat.le_refl _), Nat.sub_self] at hy
      injection hi with hi
      injection hy with hy
      subst hi
      subst hy
      exact hG.own (own_base hu hb) fun k hk hs => own_ne h1.outer hu hne k hs hk
    · rw [List.getElem?_eq_none (by simp; omega)] at hi
      cases hi
  · have hI : ∀ (i : Nat) (a : Value), (vs ++ [u])[i]? = some a → (vs[i]? = some a) ∨ (i = vs.length ∧ a = u) := fun i a hi => by
      rcases Nat.lt_trichotomy i vs.length with hl | hl | hl
      · rw [List.getElem?_append_left hl] at hi
        exact .inl hi
      · subst hl
        rw [List.getElem?_append_right (Nat.le_refl _), Nat.sub_self] at hi
        injection hi with hi
        exact .inr ⟨rfl, hi.symm⟩
      · rw [List.getElem?_eq_none (by simp; omega)] at hi
        cases hi
    rcases hI i a hi with h2 | ⟨h2, h3⟩
    · rcases hI j b hj with h4 | ⟨h4, h5⟩
      · exact h.dist i j a b g h2 h4 ha hb
      · subst h5
        exact (hnew i a h2 g ha hb).elim
    · subst h3
      rcases hI j b hj with h4 | ⟨h4, h5⟩
      · exact (hnew j b h4 g hb ha).elim
      · omega

/-- It is a slice, and shows its lists. -/
theorem LstV.sees (h : LstV w base v vs xs) : ∃ A c, v = .slice A xs.length c ∧ xs.length ≤ c ∧ c ≤ maxLen ∧ SeesL w w.heap.size A xs := by
  have ho := h.outer
  have hl := h.len
  rw [hl] at ho
  obtain ⟨A, c, rfl, h1, h2⟩ := own_slice ho hl
  refine ⟨A, c, rfl, h1, h2, vs, Sees.of_own ho, hl, fun i x hx => ?_⟩
  have hi : i < vs.length := by rw [hl]; exact (List.getElem?_eq_some_iff.1 hx).1
  have hin := h.inner i vs[i] x (List.getElem?_eq_getElem hi) hx
  obtain ⟨A', c', hv, h3, h4⟩ := own_slice hin (bts_length x)
  rw [hv] at hin
  exact ⟨A', c', by rw [List.getElem?_eq_getElem hi, hv], h3, h4, Sees.of_own hin⟩
theorem Lst.sees (h : Lst w base v xs) : ∃ A c, v = .slice A xs.length c ∧ xs.length ≤ c ∧ c ≤ maxLen ∧ SeesL w w.heap.size A xs := by
  obtain ⟨vs, h⟩ := h
  exact h.sees
theorem LstV.one (h : LstV w base v vs xs) : ∀ u ∈ vs, u.oneCell' = true := by
  intro u hu
  obtain ⟨i, hi, rfl⟩ := List.getElem_of_mem hu
  obtain ⟨x, _, hx⟩ := h.get (List.getElem?_eq_getElem hi)
  obtain ⟨A, c, hv, _⟩ := own_slice hx (bts_length x)
  rw [hv]
  rfl
end

end Go.Proofs.Ytgipdebkikldaaa
