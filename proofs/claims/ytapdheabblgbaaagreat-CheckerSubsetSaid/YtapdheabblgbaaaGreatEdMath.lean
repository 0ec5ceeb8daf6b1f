/-
  Invariants, initial pairs: the mathematics of layer 15.
-/
import Derived.Test.YtapdheabblgbaaaGreatPk3
import Derived.Test.YtapdheabblgbaaaGreatPk1
namespace Go.Proofs.YtapdheabblgbaaaGreat
set_option linter.unusedVariables false

/-- The error of a pair behind another one. -/
def prE (v r s : Int) (q : Option Pr) (p : Pr) : Int :=
  if p.1 < 0 ∨ v ≤ p.1 then 9 else if locS p.2 r s = false then 10 else
  match q with
  | none => 0
  | some q => if ltP q p then 0 else 13

/-- The first error of an invariant, behind a pair. -/
def vlE (v r s : Int) : Option Pr → List Pr → Int
  | _, [] => 0
  | q, p :: l => if prE v r s q p ≠ 0 then prE v r s q p else vlE v r s (some p) l

/-- The first error of some invariants. -/
def vlsE (v r s : Int) : List (List Pr) → Int
  | [] => 0
  | l :: w => if vlE v r s none l ≠ 0 then vlE v r s none l else vlsE v r s w

/-- What Valid returns, the limit aside. -/
def validE (w : List (List Pr)) (n v r s : Int) : Int := if (w.length : Int) ≠ n then 14 else vlsE v r s w

/-- The pair ahead of position k. -/
def bef (l : List Pr) (k : Nat) : Option Pr := if k = 0 then none else l[k - 1]?

theorem vlE_step {v r s : Int} {l : List Pr} {k : Nat} (hk : k < l.length) : vlE v r s (bef l k) (l.drop k) = if prE v r s (bef l k) l[k] ≠ 0 then prE v r s (bef l k) l[k] else vlE v r s (bef l (k + 1)) (l.drop (k + 1)) := by
  rw [List.drop_eq_getElem_cons hk, vlE]
  have e : bef l (k + 1) = some l[k] := by simp [bef, hk]
  rw [e]

theorem vlsE_step {v r s : Int} {w : List (List Pr)} {k : Nat} (hk : k < w.length) : vlsE v r s (w.drop k) = if vlE v r s none w[k] ≠ 0 then vlE v r s none w[k] else vlsE v r s (w.drop (k + 1)) := by
  rw [List.drop_eq_getElem_cons hk, vlsE]

/-- How many pairs some invariants have. -/
def totP (w : List (List Pr)) : Nat := (w.map List.length).sum

theorem totP_le {w : List (List Pr)} {m : Nat} (h : ∀ l ∈ w, l.length ≤ m) : totP w ≤ w.length * m := by
  induction w with
  | nil => simp [totP]
  | cons x w ih =>
    have h1 := h x (by simp)
    have h2 := ih fun l hl => h l (by simp [hl])
    simp only [totP, List.map_cons, List.sum_cons, List.length_cons] at *
    rw [Nat.add_mul, Nat.one_mul]
    omega

theorem totP_take {w : List (List Pr)} {k : Nat} (hk : k < w.length) : totP (w.take (k + 1)) = totP (w.take k) + w[k].length := by
  unfold totP
  rw [List.take_succ_eq_append_getElem hk, List.map_append, List.sum_append]
  simp

theorem take_few {w : List (List Pr)} {m : Nat} (h : ∀ l ∈ w, l.length ≤ m) (k : Nat) : ∀ l ∈ w.take k, l.length ≤ m := fun l hl => h l (List.mem_of_mem_take hl)

/-- Whether a pair, not negative, is an initial one. -/
def initP (p : Pr) (a : Int) : Bool :=
  if p.1 < a then decide (p.2 % 2 = 1) && decide (p.2 / 2 = p.1) else decide (p.2 % 2 ≠ 1) || decide (a ≤ p.2 / 2)

/-- The first pair that is not an initial one. -/
def entP (w : List Pr) (a : Int) : Option Pr := w.find? fun p => !initP p a
theorem entP_none {w : List Pr} {a : Int} : entP w a = none ↔ ∀ p ∈ w, initP p a = true := by simp [entP]
theorem entP_take {w : List Pr} {a : Int} {i : Nat} (hi : i < w.length) (h : ∀ x ∈ w.take i, initP x a = true) (hn : initP w[i] a = false) : entP w a = some w[i] := by
  have e : w = w.take i ++ w[i] :: w.drop (i + 1) := by simp
  have e1 : (w.take i).find? (fun x => !initP x a) = none := List.find?_eq_none.2 (by simpa using h)
  have e2 : (w[i] :: w.drop (i + 1)).find? (fun x => !initP x a) = some w[i] := List.find?_cons_of_pos (by simp [hn])
  unfold entP
  refine (congrArg (List.find? fun x => !initP x a) e).trans ?_
  rw [List.find?_append, e1, Option.none_or, e2]

theorem vlE_range {v r s : Int} : ∀ {l : List Pr} {q : Option Pr}, vlE v r s q l = 0 → ∀ p ∈ l, (0 ≤ p.1 ∧ p.1 < v) ∧ locS p.2 r s = true
  | [], _, _ => fun p hp => by simp at hp
  | x :: l, q, h => by
    rw [vlE] at h
    split at h
    · next h1 => exact absurd h h1
    · next h1 =>
      have h1 : prE v r s q x = 0 := by omega
      intro p hp
      rcases List.mem_cons.1 hp with rfl | hp
      · unfold prE at h1
        split at h1
        · omega
        · split at h1
          · omega
          · next h2 h3 => exact ⟨by omega, by simpa using h3⟩
      · exact vlE_range h p hp

end Go.Proofs.YtapdheabblgbaaaGreat
