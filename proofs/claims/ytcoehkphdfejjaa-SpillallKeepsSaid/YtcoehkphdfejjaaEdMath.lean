/-
  Invariants, initial pairs: the mathematics of layer 15.
-/
import Derived.Test.YtcoehkphdfejjaaPk3
import Derived.Test.YtcoehkphdfejjaaPk1
namespace Go.Proofs.Ytcoehkphdfejjaa
set_option linter.unusedVariables false

/-- The error of a pair behind another one. -/
def prE (v r s : Int) (q : Option Pr) (p : Pr) : Int :=
  if p.1 < 0 ∨ v ≤ p.1 then 9 else if locS p.2 r s = false then 10 else
  match q with
  | none => 0
  | some q => if ltP q p then 0 else 13

/-- The first error of an invariant, behind a pair. -/
def vlE (v r s : Int) : Option Pr → List Pr → Int
  | _, [] => 0
  | q, p :: l => if prE v r s q p ≠ 0 then prE v r s q p else vlE v r s (some p) l

/-- The first error of some invariants. -/
def vlsE (v r s : Int) : List (List Pr) → Int
  | [] => 0
  | l :: w => if vlE v r s none l ≠ 0 then vlE v r s none l else vlsE v r s w

/-- What Valid returns, the limit aside. -/
def validE (w : List (List Pr)) (n v r s : Int) : Int := if (w.length : Int) ≠ n then 14 else vlsE v r s w

/-- The pair ahead of position k. -/
def bef (l : List Pr) (k : Nat) : Option Pr := if k = 0 then none else l[k - 1]?

theorem vlE_step {v r s : Int} {l : List Pr} {k : Nat} (hk : k < l.length) : vlE v r s (bef l k) (l.drop k) = if prE v r s (bef l k) l[k] ≠ 0 then prE v r s (bef l k) l[k] else vlE v r s (bef l (k + 1)) (l.drop (k + 1)) := by
  rw [List.drop_eq_getElem_cons hk, vlE]
  have e : bef l (k + 1) = some l[k] := by simp [bef, hk]
  rw [e]

theorem vlsE_step {v r s : Int} {w : List (List Pr)} {k : Nat} (hk : k < w.length) : vlsE v r s (w.drop k) = if vlE v r s none w[k] ≠ 0 then vlE v r s none w[k] else vlsE v r s (w.drop (k + 1)) := by
  rw [List.drop_eq_getElem_cons hk, vlsE]

/-- How many pairs some invariants have. -/
def totP (w : List (List Pr)) : Nat := (w.map List.length).sum

theorem totP_le {w : List (List Pr)} {m : Nat} (h : ∀ l ∈ w, l.length ≤ m) : totP w ≤ w.length * m := by
  induction w with
  | nil => simp [totP]
  | cons x w ih =>
    have h1 := h x (by simp)
    have h2 := ih fun l hl => h l (by simp [hl])
    simp only [totP, List.map_cons, List.sum_cons, List.length_cons] at *
    rw [Nat.add_mul, Nat.one_mul]
    omega

theorem totP_take {w : List (List Pr)} {k : Nat} (hk : k < w.length) : totP (w.take (k + 1)) = totP (w.take k) + w[k].length := by
  unfold totP
  rw [List.take_succ_eq_append_getElem hk, List.map_append, List.sum_append]
  simp

theorem take_few {w : List (List Pr)} {m : Nat} (h : ∀ l ∈ w, l.length ≤ m) (k : Nat) : ∀ l ∈ w.take k, l.length ≤ m := fun l hl => h l (List.mem_of_mem_take hl)

/-- Whether a pair, not negative, is an initial one. -/
def initP (p : Pr) (a : Int) : Bool :=
  if p.1 < a then decide (p.2 % 2 = 1) && decide (p.2 / 2 = p.1) else decide (p.2 % 2 ≠ 1) || decide (a ≤ p.2 / 2)

/-- Locations in range, ascending. -/
def locsA (r s : Nat) (n : Nat) : List Int := (if n < r then [2 * (n : Int)] else []) ++ (if n < s then [2 * (n : Int) + 1] else [])

def locsN (r s m : Nat) : List Int := (List.range m).flatMap (locsA r s)

/-- The initial pairs of a register. -/
def rowA (a : Int) (v : Nat) (ls : List Int) : List Pr := (ls.filter fun l => initP ((v : Int), l) a).map fun l => ((v : Int), l)

def allA (a : Int) (r s : Nat) (n : Nat) : List Pr := (List.range n).flatMap fun v => rowA a v (locsN r s (max r s))

theorem locsN_succ (r s m : Nat) : locsN r s (m + 1) = locsN r s m ++ locsA r s m := by simp [locsN, List.range_succ]

theorem rowA_append (a : Int) (v : Nat) (l1 l2 : List Int) : rowA a v (l1 ++ l2) = rowA a v l1 ++ rowA a v l2 := by simp [rowA]

theorem rowA_one (a : Int) (v : Nat) (l : Int) : rowA a v [l] = if initP ((v : Int), l) a then [((v : Int), l)] else [] := by
  simp only [rowA, List.filter_cons, List.filter_nil]
  split <;> rfl

theorem allA_succ (a : Int) (r s n : Nat) : allA a r s (n + 1) = allA a r s n ++ rowA a n (locsN r s (max r s)) := by simp [allA, List.range_succ]

theorem mem_locsL {r s n : Nat} {l : Int} : l ∈ locsA r s n ↔ (l = 2 * (n : Int) ∧ n < r) ∨ (l = 2 * (n : Int) + 1 ∧ n < s) := by
  unfold locsA
  rw [List.mem_append]
  constructor
  · rintro (h | h)
    · split at h
      · simp at h; exact .inl ⟨h, by assumption⟩
      · simp at h
    · split at h
      · simp at h; exact .inr ⟨h, by assumption⟩
      · simp at h
  · rintro (⟨rfl, h⟩ | ⟨rfl, h⟩)
    · left; rw [if_pos h]; simp
    · right; rw [if_pos h]; simp

theorem mem_locsN {r s : Nat} {l : Int} : l ∈ locsN r s (max r s) ↔ locS l r s = true := by
  unfold locsN
  rw [List.mem_flatMap]
  constructor
  · rintro ⟨n, hn, h⟩
    rcases mem_locsL.1 h with ⟨rfl, h⟩ | ⟨rfl, h⟩
    · unfold locS
      rw [if_neg (by omega), if_neg (by omega)]
      simp
      omega
    · unfold locS
      rw [if_neg (by omega), if_pos (by omega)]
      simp
      omega
  · intro h
    have h0 := locS_nn h
    unfold locS at h
    rw [if_neg (by omega)] at h
    refine ⟨(l / 2).toNat, ?_, mem_locsL.2 ?_⟩
    · rw [List.mem_range]
      split at h <;> simp at h <;> omega
    · split at h <;> simp at h <;> omega

theorem mem_allA {a : Int} {r s n : Nat} {p : Pr} : p ∈ allA a r s n ↔ (0 ≤ p.1 ∧ p.1 < n) ∧ locS p.2 r s = true ∧ initP p a = true := by
  unfold allA rowA
  simp only [List.mem_flatMap, List.mem_range, List.mem_map, List.mem_filter, mem_locsN]
  constructor
  · rintro ⟨v, hv, l, ⟨h1, h2⟩, rfl⟩
    exact ⟨⟨by simp, by simp; omega⟩, h1, h2⟩
  · rintro ⟨⟨h1, h2⟩, h3, h4⟩
    obtain ⟨v, l⟩ := p
    dsimp only at *
    refine ⟨v.toNat, by omega, l, ⟨h3, ?_⟩, ?_⟩
    · rw [Int.toNat_of_nonneg h1]; exact h4
    · rw [Int.toNat_of_nonneg h1]

theorem locsL_len (r s n : Nat) : (locsA r s n).length ≤ 2 := by
  unfold locsA
  split <;> split <;> simp

theorem locsN_len (r s m : Nat) : (locsN r s m).length ≤ 2 * m := by
  induction m with
  | zero => simp [locsN]
  | succ m ih =>
    rw [locsN_succ, List.length_append]
    have := locsL_len r s m
    omega

theorem rowA_len (a : Int) (v : Nat) (l : List Int) : (rowA a v l).length ≤ l.length := by
  unfold rowA
  rw [List.length_map]
  exact List.length_filter_le _ _

theorem allA_len (a : Int) (r s n : Nat) : (allA a r s n).length ≤ n * (2 * max r s) := by
  induction n with
  | zero => simp [allA]
  | succ n ih =>
    rw [allA_succ, List.length_append, Nat.add_mul, Nat.one_mul]
    have h1 := rowA_len a n (locsN r s (max r s))
    have h2 := locsN_len r s (max r s)
    omega

theorem locsL_lt {r s n : Nat} : (locsA r s n).Pairwise fun a b => a < b := by
  unfold locsA
  split <;> split <;> simp
  omega

theorem locsN_lt {r s : Nat} : ∀ m, (locsN r s m).Pairwise fun a b => a < b
  | 0 => by simp [locsN]
  | m + 1 => by
    rw [locsN_succ, List.pairwise_append]
    refine ⟨locsN_lt m, locsL_lt, fun x hx y hy => ?_⟩
    unfold locsN at hx
    rw [List.mem_flatMap] at hx
    obtain ⟨n, hn, hx⟩ := hx
    have hn := List.mem_range.1 hn
    rcases mem_locsL.1 hx with ⟨rfl, _⟩ | ⟨rfl, _⟩ <;> rcases mem_locsL.1 hy with ⟨rfl, _⟩ | ⟨rfl, _⟩ <;> omega

theorem rowA_srt (a : Int) (v : Nat) {ls : List Int} (h : ls.Pairwise fun a b => a < b) : Srt (rowA a v ls) := by
  unfold Srt rowA
  rw [List.pairwise_map]
  exact (h.sublist List.filter_sublist).imp fun h => by rw [ltP_iff]; exact .inr ⟨rfl, h⟩

theorem allA_srt (a : Int) (r s : Nat) : ∀ n, Srt (allA a r s n)
  | 0 => by simp [allA, Srt]
  | n + 1 => by
    rw [allA_succ]
    unfold Srt
    rw [List.pairwise_append]
    refine ⟨allA_srt a r s n, rowA_srt a n (locsN_lt _), fun x hx y hy => ?_⟩
    have h1 := (mem_allA.1 hx).1
    unfold rowA at hy
    obtain ⟨l, _, rfl⟩ := List.mem_map.1 hy
    rw [ltP_iff]
    left
    show x.1 < (n : Int)
    omega

/-- The first pair that is not an initial one. -/
def entP (w : List Pr) (a : Int) : Option Pr := w.find? fun p => !initP p a

theorem entP_none {w : List Pr} {a : Int} : entP w a = none ↔ ∀ p ∈ w, initP p a = true := by simp [entP]

theorem entP_take {w : List Pr} {a : Int} {i : Nat} (hi : i < w.length) (h : ∀ x ∈ w.take i, initP x a = true) (hn : initP w[i] a = false) : entP w a = some w[i] := by
  have e : w = w.take i ++ w[i] :: w.drop (i + 1) := by simp
  have e1 : (w.take i).find? (fun x => !initP x a) = none := List.find?_eq_none.2 (by simpa using h)
  have e2 : (w[i] :: w.drop (i + 1)).find? (fun x => !initP x a) = some w[i] := List.find?_cons_of_pos (by simp [hn])
  unfold entP
  refine (congrArg (List.find? fun x => !initP x a) e).trans ?_
  rw [List.find?_append, e1, Option.none_or, e2]

theorem vlE_range {v r s : Int} : ∀ {l : List Pr} {q : Option Pr}, vlE v r s q l = 0 → ∀ p ∈ l, (0 ≤ p.1 ∧ p.1 < v) ∧ locS p.2 r s = true
  | [], _, _ => fun p hp => by simp at hp
  | x :: l, q, h => by
    rw [vlE] at h
    split at h
    · next h1 => exact absurd h h1
    · next h1 =>
      have h1 : prE v r s q x = 0 := by omega
      intro p hp
      rcases List.mem_cons.1 hp with rfl | hp
      · unfold prE at h1
        split at h1
        · omega
        · split at h1
          · omega
          · next h2 h3 => exact ⟨by omega, by simpa using h3⟩
      · exact vlE_range h p hp

/-- What Entry finds in a valid invariant is what is missing in the initial pairs. -/
theorem entP_mis {w : List Pr} {a : Int} {v r s : Nat} (h : ∀ p ∈ w, (0 ≤ p.1 ∧ p.1 < (v : Int)) ∧ locS p.2 r s = true) : entP w a = misP w (allA a r s v) := by
  unfold entP misP
  have : ∀ (u : List Pr), (∀ p ∈ u, (0 ≤ p.1 ∧ p.1 < (v : Int)) ∧ locS p.2 r s = true) → u.find? (fun p => !initP p a) = u.find? fun x => !hasP (allA a r s v) x := by
    intro u hu
    induction u with
    | nil => rfl
    | cons x u ih =>
      obtain ⟨h1, h2⟩ := hu x (by simp)
      have e : hasP (allA a r s v) x = initP x a := by
        unfold hasP
        rw [Bool.eq_iff_iff, decide_eq_true_iff, mem_allA]
        exact ⟨fun h => h.2.2, fun h => ⟨h1, h2, h⟩⟩
      rw [List.find?_cons, List.find?_cons, e, ih fun p hp => hu p (by simp [hp])]
  exact this w h

end Go.Proofs.Ytcoehkphdfejjaa
