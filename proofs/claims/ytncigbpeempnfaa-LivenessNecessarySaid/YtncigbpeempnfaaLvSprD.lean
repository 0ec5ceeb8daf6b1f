/-
  Spreading one register backwards, as data: a stack of blocks that are being processed, and what is known to be live.
-/
import Derived.Test.YtncigbpeempnfaaLvGr
namespace Go.Proofs.Ytncigbpeempnfaa
open Go.RowKit
set_option linter.unusedVariables false

/-- The block p defines v, or v is known to be live at its entry. -/
def okE23 (D L : Nat → Int → Bool) (v p : Int) : Prop := D p.toNat v = true ∨ L p.toNat v = true

def ClosedV (n : Nat) (D : Nat → Int → Bool) (B : Nat → List Int) (L : Nat → Int → Bool) (v : Int) : Prop := ∀ j, j < n → L j v = true → ∀ p ∈ B j, okE23 D L v p

structure StI (n : Nat) (D : Nat → Int → Bool) (B : Nat → List Int) (L0 : Nat → Int → Bool) (P : Nat → Prop) (k : Nat) (v : Int) (st : List (Nat × Nat)) (L : Nat → Int → Bool) : Prop where
  oth : ∀ j z, z ≠ v → L j z = L0 j z
  mono : ∀ j z, L0 j z = true → L j z = true
  top : L k v = true
  snd : ∀ j, j < n → L j v = true → P j
  cls : ∀ j, j < n → L j v = true → (∀ p ∈ B j, okE23 D L v p) ∨ ∃ d, (j, d) ∈ st ∧ ∀ p ∈ (B j).take d, okE23 D L v p
  inr : ∀ j d, (j, d) ∈ st → j < n ∧ L j v = true ∧ d ≤ (B j).length

theorem updL_self {L : Nat → Int → Bool} {k : Nat} {v : Int} : updL L k v k v = true := by simp [updL]

theorem updL_mono {L : Nat → Int → Bool} {k : Nat} {v : Int} {j : Nat} {z : Int} (h : L j z = true) : updL L k v j z = true := by simp [updL, h]

theorem updL_or {L : Nat → Int → Bool} {k : Nat} {v : Int} {j : Nat} {z : Int} (h : updL L k v j z = true) : L j z = true ∨ (j = k ∧ z = v) := by
  simp only [updL, Bool.or_eq_true, Bool.and_eq_true, decide_eq_true_eq] at h
  exact h

theorem updL_same {L : Nat → Int → Bool} {k : Nat} {v : Int} (h : L k v = true) : updL L k v = L := by
  funext j z
  by_cases e : j = k ∧ z = v
  · obtain ⟨rfl, rfl⟩ := e; rw [updL_self, h]
  · cases hb : updL L k v j z
    · cases hl : L j z
      · rfl
      · rw [updL_mono hl] at hb; cases hb
    · rcases updL_or hb with h | h
      · exact h.symm
      · exact absurd h e

theorem updL_ne {L : Nat → Int → Bool} {k : Nat} {v : Int} {j : Nat} {z : Int} (h : z ≠ v) : updL L k v j z = L j z := by simp [updL, h]

theorem okE_mono {D L : Nat → Int → Bool} {k : Nat} {v z p : Int} (h : okE23 D L v p) : okE23 D (updL L k z) v p := h.elim .inl fun h => .inr (updL_mono h)

section
variable {n k : Nat} {D L0 L : Nat → Int → Bool} {B : Nat → List Int} {P : Nat → Prop} {v : Int} {s : List (Nat × Nat)} {j d : Nat}

theorem StI.start (hc : ClosedV n D B L0 v) (hs : ∀ j, j < n → L0 j v = true → P j) (hk : k < n) (hP : P k) : StI n D B L0 P k v [(k, 0)] (updL L0 k v) where
  oth j z h := updL_ne h
  mono j z h := updL_mono h
  top := updL_self
  snd j hj h := by
    rcases updL_or h with h | ⟨rfl, _⟩
    · exact hs j hj h
    · exact hP
  cls j hj h := by
    rcases updL_or h with h | ⟨rfl, _⟩
    · exact .inl fun p hp => okE_mono (hc j hj h p hp)
    · exact .inr ⟨0, by simp, fun p hp => by simp at hp⟩
  inr j d h := by
    simp only [List.mem_singleton, Prod.mk.injEq] at h
    obtain ⟨rfl, rfl⟩ := h
    exact ⟨hk, updL_self, Nat.zero_le _⟩

theorem mem_snoc {x y : Nat × Nat} : x ∈ s ++ [y] ↔ x ∈ s ∨ x = y := by rw [List.mem_append, List.mem_singleton]

/-- One block more has been looked at. -/
theorem StI.inc (h : StI n D B L0 P k v (s ++ [(j, d)]) L) {p : Int} (hp : (B j)[d]? = some p) (hok : okE23 D L v p) : StI n D B L0 P k v (s ++ [(j, d + 1)]) L := by
  have hd : d < (B j).length := (List.getElem?_eq_some_iff.1 hp).1
  refine { h with cls := fun i hi hl => ?_, inr := fun i e he => ?_ }
  · rcases h.cls i hi hl with h1 | ⟨e, h1, h2⟩
    · exact .inl h1
    · rcases mem_snoc.1 h1 with h1 | h1
      · exact .inr ⟨e, mem_snoc.2 (.inl h1), h2⟩
      · injection h1 with e1 e2
        subst e1 e2
        refine .inr ⟨e + 1, mem_snoc.2 (.inr rfl), fun q hq => ?_⟩
        rw [List.take_succ_eq_append_getElem hd, List.mem_append, List.mem_singleton] at hq
        rcases hq with hq | rfl
        · exact h2 q hq
        · rw [List.getElem?_eq_getElem hd] at hp; injection hp with hp; rw [hp]; exact hok
  · rcases mem_snoc.1 he with he | he
    · exact h.inr i e (mem_snoc.2 (.inl he))
    · injection he with e1 e2
      subst e1 e2
      obtain ⟨h1, h2, h3⟩ := h.inr i d (mem_snoc.2 (.inr rfl))
      exact ⟨h1, h2, hd⟩

/-- A block has become live, and is processed next. -/
theorem StI.push (h : StI n D B L0 P k v (s ++ [(j, d)]) L) {p : Nat} (hp : (B j)[d]? = some (p : Int)) (hpn : p < n) (hP : P p) : StI n D B L0 P k v (s ++ [(j, d + 1)] ++ [(p, 0)]) (updL L p v) := by
  have hd : d < (B j).length := (List.getElem?_eq_some_iff.1 hp).1
  refine { oth := fun i z hz => by rw [updL_ne hz]; exact h.oth i z hz, mono := fun i z hz => updL_mono (h.mono i z hz), top := updL_mono h.top, snd := fun i hi hl => ?_, cls := fun i hi hl => ?_, inr := fun i e he => ?_ }
  · rcases updL_or hl with hl | ⟨rfl, _⟩
    · exact h.snd i hi hl
    · exact hP
  · rcases updL_or hl with hl | ⟨rfl, _⟩
    · rcases h.cls i hi hl with h1 | ⟨e, h1, h2⟩
      · exact .inl fun q hq => okE_mono (h1 q hq)
      · rcases mem_snoc.1 h1 with h1 | h1
        · exact .inr ⟨e, mem_snoc.2 (.inl (mem_snoc.2 (.inl h1))), fun q hq => okE_mono (h2 q hq)⟩
        · injection h1 with e1 e2
          subst e1 e2
          refine .inr ⟨e + 1, mem_snoc.2 (.inl (mem_snoc.2 (.inr rfl))), fun q hq => ?_⟩
          rw [List.take_succ_eq_append_getElem hd, List.mem_append, List.mem_singleton] at hq
          rcases hq with hq | rfl
          · exact okE_mono (h2 q hq)
          · rw [List.getElem?_eq_getElem hd] at hp; injection hp with hp; rw [hp]; right; rw [Int.toNat_natCast]; exact updL_self
    · exact .inr ⟨0, mem_snoc.2 (.inr rfl), fun q hq => by simp at hq⟩
  · rcases mem_snoc.1 he with he | he
    · rcases mem_snoc.1 he with he | he
      · obtain ⟨h1, h2, h3⟩ := h.inr i e (mem_snoc.2 (.inl he))
        exact ⟨h1, updL_mono h2, h3⟩
      · injection he with e1 e2
        subst e1 e2
        obtain ⟨h1, h2, h3⟩ := h.inr i d (mem_snoc.2 (.inr rfl))
        exact ⟨h1, updL_mono h2, hd⟩
    · injection he with e1 e2
      subst e1 e2
      exact ⟨hpn, updL_self, Nat.zero_le _⟩

/-- The last block is done with. -/
theorem StI.pop (h : StI n D B L0 P k v (s ++ [(j, d)]) L) (hd : (B j).length ≤ d) : StI n D B L0 P k v s L := by
  refine { h with cls := fun i hi hl => ?_, inr := fun i e he => h.inr i e (mem_snoc.2 (.inl he)) }
  rcases h.cls i hi hl with h1 | ⟨e, h1, h2⟩
  · exact .inl h1
  · rcases mem_snoc.1 h1 with h1 | h1
    · exact .inr ⟨e, h1, h2⟩
    · injection h1 with e1 e2
      subst e1 e2
      exact .inl fun q hq => h2 q (by rw [List.take_of_length_le hd]; exact hq)

theorem StI.closed (h : StI n D B L0 P k v [] L) : ClosedV n D B L v := fun j hj hl => by
  rcases h.cls j hj hl with h | ⟨e, h, _⟩
  · exact h
  · simp at h

end

/-- How many blocks are not known to be live. -/
def cntF (n : Nat) (L : Nat → Int → Bool) (v : Int) : Nat := (List.range n).countP fun j => !L j v

theorem cntF_le (n : Nat) (L : Nat → Int → Bool) (v : Int) : cntF n L v ≤ n := by
  have := List.countP_le_length (p := fun j => !L j v) (l := List.range n)
  simpa [cntF] using this

theorem countP_lt {α : Type} (f g : α → Bool) : ∀ (l : List α) (x : α), x ∈ l → (∀ y, g y = true → f y = true) → f x = true → g x = false → l.countP g + 1 ≤ l.countP f
  | y :: r, x, hx, h, h1, h2 => by
    have hle : ∀ r : List α, r.countP g ≤ r.countP f := fun r => List.countP_mono_left fun y _ => h y
    rcases List.mem_cons.1 hx with rfl | hx
    · rw [List.countP_cons_of_pos h1, List.countP_cons_of_neg (by simp [h2])]
      have := hle r; omega
    · have ih := countP_lt f g r x hx h h1 h2
      rw [List.countP_cons, List.countP_cons]
      cases hg : g y
      · simp; split <;> omega
      · rw [h y hg]; simp; omega

theorem cntF_upd {n : Nat} {L : Nat → Int → Bool} {v : Int} {p : Nat} (hp : p < n) (hl : L p v = false) : cntF n (updL L p v) v + 1 ≤ cntF n L v := by
  unfold cntF
  refine countP_lt _ _ _ p (List.mem_range.2 hp) (fun y hy => ?_) (by simp [hl]) (by rw [updL_self]; rfl)
  cases h : L y v
  · rfl
  · rw [updL_mono h] at hy; cases hy

end Go.Proofs.Ytncigbpeempnfaa
