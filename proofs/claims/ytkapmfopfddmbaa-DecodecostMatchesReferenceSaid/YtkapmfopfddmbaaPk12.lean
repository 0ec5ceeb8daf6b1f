import Derived.Test.YtkapmfopfddmbaaPk1
import Derived.Test.YtkapmfopfddmbaaPk2
import Derived.Deep.RegionHeld3
import Derived.Shelf.SlSortCmp.QuietGrown
import Derived.Lib.Small
import Derived.Laws.StructEq
import Derived.Deep.Cut
import Derived.Deep.CutRange
import Derived.Deep.DeepMust

/-
  Pairs, their order, and pair sets as lists: the mathematics of layer 11.
-/
namespace Go.Proofs.Ytkapmfopfddmbaa
set_option linter.unusedVariables false

abbrev Pr := Int × Int

/-- Ordered before: by the register, then by the location. -/
def ltP (p q : Pr) : Bool := decide (p.1 < q.1 ∨ (p.1 = q.1 ∧ p.2 < q.2))

theorem ltP_iff {p q : Pr} : ltP p q = true ↔ p.1 < q.1 ∨ (p.1 = q.1 ∧ p.2 < q.2) := by simp [ltP]

theorem ltP_irrefl (p : Pr) : ltP p p = false := by simp [ltP]

theorem ltP_trans {p q r : Pr} (h : ltP p q = true) (k : ltP q r = true) : ltP p r = true := by
  rw [ltP_iff] at *
  omega

theorem ltP_ntrans {p q r : Pr} (h : ltP p q = false) (k : ltP q r = false) : ltP p r = false := by
  rw [← Bool.not_eq_true, ltP_iff] at *
  omega

theorem pr_eq {p q : Pr} (h1 : p.1 = q.1) (h2 : p.2 = q.2) : p = q := Prod.ext h1 h2

theorem ltP_total {p q : Pr} (h : ltP p q = false) (k : ltP q p = false) : p = q := by
  rw [← Bool.not_eq_true, ltP_iff] at *
  exact pr_eq (by omega) (by omega)

theorem ltP_asymm {p q : Pr} (h : ltP p q = true) : ltP q p = false := by
  rw [← Bool.not_eq_true]
  intro k
  have := ltP_trans h k
  rw [ltP_irrefl] at this
  cases this

theorem ltP_ne {p q : Pr} (h : ltP p q = true) : p ≠ q := by
  intro e
  subst e
  rw [ltP_irrefl] at h
  cases h

theorem ltP_of_le {p q : Pr} (h : ltP q p = false) (k : p ≠ q) : ltP p q = true := by
  rcases Bool.eq_false_or_eq_true (ltP p q) with e | e
  · exact e
  · exact absurd (ltP_total e h) k

theorem ltP_lt_le {p q r : Pr} (h : ltP p q = true) (k : ltP r q = false) : ltP p r = true := by
  rw [← Bool.not_eq_true, ltP_iff] at k
  rw [ltP_iff] at *
  omega

theorem ltP_le_lt {p q r : Pr} (h : ltP q p = false) (k : ltP q r = true) : ltP p r = true := by
  rw [← Bool.not_eq_true, ltP_iff] at h
  rw [ltP_iff] at *
  omega

/-- A pair set: strictly ascending. -/
def Srt (l : List Pr) : Prop := l.Pairwise fun a b => ltP a b = true

theorem Srt.nil : Srt [] := List.Pairwise.nil

theorem Srt.tail {x : Pr} {l : List Pr} (h : Srt (x :: l)) : Srt l := (List.pairwise_cons.1 h).2

theorem Srt.snoc {l : List Pr} {x : Pr} (h : Srt l) (hx : ∀ y ∈ l, ltP y x = true) : Srt (l ++ [x]) := by
  unfold Srt
  rw [List.pairwise_append]
  exact ⟨h, List.pairwise_singleton _ _, fun a ha b hb => by simp at hb; subst hb; exact hx a ha⟩

theorem Srt.lt {l : List Pr} (h : Srt l) {i j : Nat} (hij : i < j) (hj : j < l.length) : ltP (l[i]'(by omega)) l[j] = true := List.pairwise_iff_getElem.1 h i j (by omega) hj hij

theorem Srt.drop {l : List Pr} (h : Srt l) (k : Nat) : Srt (l.drop k) := List.Pairwise.sublist (List.drop_sublist k l) h

theorem Srt.take {l : List Pr} (h : Srt l) (k : Nat) : Srt (l.take k) := List.Pairwise.sublist (List.take_sublist k l) h

/-- Two pair sets with the same pairs are equal. -/
theorem srt_ext : ∀ {l r : List Pr}, Srt l → Srt r → (∀ q, q ∈ l ↔ q ∈ r) → l = r
  | [], [], _, _, _ => rfl
  | [], y :: r, _, _, h => by have := (h y).2 (by simp); simp at this
  | x :: l, [], _, _, h => by have := (h x).1 (by simp); simp at this
  | x :: l, y :: r, hl, hr, h => by
    have hx := List.pairwise_cons.1 hl
    have hy := List.pairwise_cons.1 hr
    have e : x = y := by
      rcases List.mem_cons.1 ((h x).1 (by simp)) with e | e
      · exact e
      · rcases List.mem_cons.1 ((h y).2 (by simp)) with e' | e'
        · exact e'.symm
        · have h1 := hy.1 x e
          have h2 := hx.1 y e'
          rw [ltP_asymm h1] at h2
          cases h2
    subst e
    rw [srt_ext hx.2 hy.2 fun q => ?_]
    constructor
    · intro hq
      rcases List.mem_cons.1 ((h q).1 (List.mem_cons_of_mem _ hq)) with e | e
      · subst e
        have := hx.1 q hq
        rw [ltP_irrefl] at this
        cases this
      · exact e
    · intro hq
      rcases List.mem_cons.1 ((h q).2 (List.mem_cons_of_mem _ hq)) with e | e
      · subst e
        have := hy.1 q hq
        rw [ltP_irrefl] at this
        cases this
      · exact e

/-- One round of the reference's Add: whether the pair is in, and the result so far. -/
def stA (p : Pr) (s : Bool × List Pr) (x : Pr) : Bool × List Pr :=
  let s1 := if s.1 = false ∧ ltP x p = false then (true, s.2 ++ [p]) else s
  if x = p then s1 else (s1.1, s1.2 ++ [x])

def foA (p : Pr) (l : List Pr) : Bool × List Pr := l.foldl (stA p) (false, [])

theorem foA_snoc (p : Pr) (l : List Pr) (x : Pr) : foA p (l ++ [x]) = stA p (foA p l) x := by simp [foA]

/-- What the reference's Add returns. -/
def addP (l : List Pr) (p : Pr) : List Pr := if (foA p l).1 then (foA p l).2 else (foA p l).2 ++ [p]

/-- What is known of the reference's Add after some pairs of a set. -/
structure OkA (p : Pr) (l : List Pr) (s : Bool × List Pr) : Prop where
  srt : Srt s.2
  mem : ∀ q, q ∈ s.2 ↔ q ∈ l ∨ (s.1 = true ∧ q = p)
  low : s.1 = false → ∀ q ∈ l, ltP q p = true
  hi : s.1 = true → ∃ y ∈ l, ltP y p = false
  len : s.2.length ≤ l.length + 1
  len0 : s.1 = false → s.2.length ≤ l.length

theorem Srt.init {l : List Pr} {x : Pr} (h : Srt (l ++ [x])) : Srt l ∧ ∀ y ∈ l, ltP y x = true := by
  unfold Srt at h
  rw [List.pairwise_append] at h
  exact ⟨h.1, fun y hy => h.2.2 y hy x (by simp)⟩

theorem okA_nil (p : Pr) : OkA p [] (false, []) := ⟨Srt.nil, fun q => by simp, fun _ q hq => by simp at hq, fun h => by simp at h, by simp, fun _ => by simp⟩

theorem okA_snoc {p : Pr} {r : List Pr} {s : Bool × List Pr} {x : Pr} (hl : Srt (r ++ [x])) (h : OkA p r s) : OkA p (r ++ [x]) (stA p s x) := by
  obtain ⟨hsr, hx⟩ := hl.init
  obtain ⟨h1, h2, h3, hh, h4, h5⟩ := h
  obtain ⟨d, o⟩ := s
  dsimp only at h1 h2 h3 h4 h5 hh
  unfold stA
  dsimp only
  by_cases hd : d = false ∧ ltP x p = false
  · rw [if_pos hd]
    obtain ⟨rfl, hxp⟩ := hd
    have hlow := h3 rfl
    have hmem : ∀ q, q ∈ o ↔ q ∈ r := fun q => by simpa using h2 q
    have hop : ∀ y ∈ o, ltP y p = true := fun y hy => hlow y ((hmem y).1 hy)
    have hlen := h5 rfl
    by_cases hxe : x = p
    · rw [if_pos hxe]
      subst hxe
      exact ⟨Srt.snoc h1 hop, fun q => by simp [hmem], fun h => by simp at h, fun _ => ⟨x, by simp, ltP_irrefl x⟩, by simp; omega, fun h => by simp at h⟩
    · rw [if_neg hxe]
      have hpx : ltP p x = true := ltP_of_le hxp (fun e => hxe e.symm)
      refine ⟨Srt.snoc (Srt.snoc h1 hop) ?_, fun q => ?_, fun h => by simp at h, fun _ => ⟨x, by simp, hxp⟩, by simp; omega, fun h => by simp at h⟩
      · intro y hy
        rcases List.mem_append.1 hy with hy | hy
        · exact ltP_trans (hop y hy) hpx
        · simp at hy; subst hy; exact hpx
      · simp only [List.mem_append, List.mem_singleton, hmem, true_and, or_assoc]
        constructor
        · rintro (h | h | h)
          · exact .inl h
          · exact .inr (.inr h)
          · exact .inr (.inl h)
        · rintro (h | h | h)
          · exact .inl h
          · exact .inr (.inr h)
          · exact .inr (.inl h)
  · rw [if_neg hd]
    by_cases hxe : x = p
    · rw [if_pos hxe]
      subst hxe
      have hdt : d = true := by
        cases d
        · exact absurd ⟨rfl, ltP_irrefl x⟩ hd
        · rfl
      subst hdt
      refine ⟨h1, fun q => ?_, fun h => by simp at h, fun _ => ⟨x, by simp, ltP_irrefl x⟩, by simp; omega, fun h => by simp at h⟩
      simp only [List.mem_append, List.mem_singleton, true_and, h2, or_assoc, or_self]
    · rw [if_neg hxe]
      cases d
      · have hxp : ltP x p = true := by
          rcases Bool.eq_false_or_eq_true (ltP x p) with e | e
          · exact e
          · exact absurd ⟨rfl, e⟩ hd
        have hmem : ∀ q, q ∈ o ↔ q ∈ r := fun q => by simpa using h2 q
        have hlen := h5 rfl
        refine ⟨Srt.snoc h1 fun y hy => hx y ((hmem y).1 hy), fun q => by simp [hmem], fun _ q hq => ?_, fun h => by simp at h, by simp; omega, fun _ => by simp; omega⟩
        rcases List.mem_append.1 hq with hq | hq
        · exact h3 rfl q hq
        · simp at hq; subst hq; exact hxp
      · obtain ⟨y, hy, hyp⟩ := hh rfl
        have hpx : ltP p x = true := ltP_le_lt hyp (hx y hy)
        refine ⟨Srt.snoc h1 fun z hz => ?_, fun q => ?_, fun h => by simp at h, fun _ => ⟨y, by simp [hy], hyp⟩, by simp; omega, fun h => by simp at h⟩
        · rcases (h2 z).1 hz with hz | ⟨_, rfl⟩
          · exact hx z hz
          · exact hpx
        · simp only [List.mem_append, List.mem_singleton, true_and, h2, or_assoc]
          constructor
          · rintro (h | h | h)
            · exact .inl h
            · exact .inr (.inr h)
            · exact .inr (.inl h)
          · rintro (h | h | h)
            · exact .inl h
            · exact .inr (.inr h)
            · exact .inr (.inl h)

theorem okA (p : Pr) : ∀ (k : Nat) (l : List Pr), l.length = k → Srt l → OkA p l (foA p l)
  | 0, l, hk, _ => by
    obtain rfl := List.eq_nil_of_length_eq_zero hk
    exact okA_nil p
  | k + 1, l, hk, hs => by
    rcases List.eq_nil_or_concat l with rfl | ⟨r, x, rfl⟩
    · simp at hk
    rw [List.concat_eq_append] at *
    rw [foA_snoc]
    exact okA_snoc hs (okA p k r (by simpa using hk) hs.init.1)

theorem addP_ok {l : List Pr} (p : Pr) (h : Srt l) : Srt (addP l p) ∧ (∀ q, q ∈ addP l p ↔ q ∈ l ∨ q = p) ∧ (addP l p).length ≤ l.length + 1 := by
  obtain ⟨h1, h2, h3, hh, h4, h5⟩ := okA p l.length l rfl h
  unfold addP
  cases hd : (foA p l).1
  · have hm : ∀ q, q ∈ (foA p l).2 ↔ q ∈ l := fun q => by simpa [hd] using h2 q
    simp only [Bool.false_eq_true, if_false]
    refine ⟨Srt.snoc h1 fun y hy => h3 hd y ((hm y).1 hy), fun q => by simp [hm], ?_⟩
    have := h5 hd
    simp; omega
  · simp only [if_true]
    exact ⟨h1, fun q => by simpa [hd] using h2 q, h4⟩

/-- The reference's Make. -/
def mkP (l : List Pr) : List Pr := l.foldl addP []

theorem mkP_snoc (l : List Pr) (x : Pr) : mkP (l ++ [x]) = addP (mkP l) x := by simp [mkP]

theorem mkP_ok : ∀ (k : Nat) (l : List Pr), l.length = k → Srt (mkP l) ∧ (∀ q, q ∈ mkP l ↔ q ∈ l) ∧ (mkP l).length ≤ l.length
  | 0, l, hk => by
    obtain rfl := List.eq_nil_of_length_eq_zero hk
    exact ⟨Srt.nil, fun q => Iff.rfl, Nat.le_refl _⟩
  | k + 1, l, hk => by
    rcases List.eq_nil_or_concat l with rfl | ⟨r, x, rfl⟩
    · simp at hk
    rw [List.concat_eq_append] at *
    obtain ⟨h1, h2, h3⟩ := mkP_ok k r (by simpa using hk)
    obtain ⟨g1, g2, g3⟩ := addP_ok x h1
    rw [mkP_snoc]
    exact ⟨g1, fun q => by simp [g2, h2], by simp; omega⟩

theorem mkP_srt (l : List Pr) : Srt (mkP l) := (mkP_ok _ l rfl).1

theorem mem_mkP {l : List Pr} {q : Pr} : q ∈ mkP l ↔ q ∈ l := (mkP_ok _ l rfl).2.1 q

theorem mkP_len (l : List Pr) : (mkP l).length ≤ l.length := (mkP_ok _ l rfl).2.2

/-- A pair set is what Make makes of whatever list has its pairs. -/
theorem mkP_eq {l r : List Pr} (hr : Srt r) (h : ∀ q, q ∈ r ↔ q ∈ l) : r = mkP l := srt_ext hr (mkP_srt l) fun q => (h q).trans mem_mkP.symm

theorem mkP_self {l : List Pr} (h : Srt l) : mkP l = l := (mkP_eq h fun _ => Iff.rfl).symm

theorem mkP_congr {l r : List Pr} (h : ∀ q, q ∈ l ↔ q ∈ r) : mkP l = mkP r := mkP_eq (mkP_srt l) fun q => mem_mkP.trans (h q)

theorem addP_eq {l : List Pr} {p : Pr} (h : Srt l) : addP l p = mkP (l ++ [p]) := mkP_eq (addP_ok p h).1 fun q => by simp [(addP_ok p h).2.1 q]

/-- Whether a pair is in a list. -/
def hasP (l : List Pr) (p : Pr) : Bool := decide (p ∈ l)

/-- The first pair of a that is not in b. -/
def misP (a b : List Pr) : Option Pr := a.find? fun x => !hasP b x

theorem misP_none {a b : List Pr} : misP a b = none ↔ ∀ x ∈ a, x ∈ b := by simp [misP, hasP]

theorem misP_take {a b : List Pr} {i : Nat} (hi : i < a.length) (h : ∀ x ∈ a.take i, x ∈ b) (hn : a[i] ∉ b) : misP a b = some a[i] := by
  have e : a = a.take i ++ a[i] :: a.drop (i + 1) := by simp
  have e1 : (a.take i).find? (fun x => !hasP b x) = none := List.find?_eq_none.2 (by simpa [hasP] using h)
  have e2 : (a[i] :: a.drop (i + 1)).find? (fun x => !hasP b x) = some a[i] := List.find?_cons_of_pos (by simp [hasP, hn])
  unfold misP
  refine (congrArg (List.find? fun x => !hasP b x) e).trans ?_
  rw [List.find?_append, e1, Option.none_or, e2]

/-- Whether a list is a pair set. -/
def srtB (l : List Pr) : Bool := (List.range (l.length - 1)).all fun i => ltP (l.getD i (0, 0)) (l.getD (i + 1) (0, 0))

theorem getD_get {l : List Pr} {i : Nat} (hi : i < l.length) : l.getD i (0, 0) = l[i] := by simp [List.getD, hi]

theorem srtB_yes {l : List Pr} (h : ∀ i, i + 1 < l.length → ltP (l.getD i (0, 0)) (l.getD (i + 1) (0, 0)) = true) : srtB l = true := by
  unfold srtB
  rw [List.all_eq_true]
  intro i hi
  exact h i (by have := List.mem_range.1 hi; omega)

theorem srtB_no {l : List Pr} {i : Nat} (hi : i + 1 < l.length) (h : ltP (l.getD i (0, 0)) (l.getD (i + 1) (0, 0)) = false) : srtB l = false := by
  rw [← Bool.not_eq_true]
  unfold srtB
  intro e
  rw [List.all_eq_true] at e
  have := e i (List.mem_range.2 (by omega))
  rw [h] at this
  cases this

theorem srtB_of {l : List Pr} (h : Srt l) : srtB l = true := srtB_yes fun i hi => by
  rw [getD_get hi, getD_get (by omega)]
  exact h.lt (by omega) hi

theorem mem_take_succ {l : List Pr} {i : Nat} (hi : i < l.length) {q : Pr} : q ∈ l.take (i + 1) ↔ q ∈ l.take i ∨ q = l[i] := by
  rw [List.take_succ_eq_append_getElem hi, List.mem_append, List.mem_singleton]

theorem drop_head {l : List Pr} {i : Nat} (hi : i < l.length) {q : Pr} : q ∈ l.drop i ↔ q = l[i] ∨ q ∈ l.drop (i + 1) := by
  rw [List.drop_eq_getElem_cons hi, List.mem_cons]

theorem Srt.head_lt {l : List Pr} (h : Srt l) {i : Nat} (hi : i < l.length) {q : Pr} (hq : q ∈ l.drop (i + 1)) : ltP l[i] q = true := by
  have := h.drop i
  rw [List.drop_eq_getElem_cons hi] at this
  exact (List.pairwise_cons.1 this).1 q hq

/-- Pairs as cells. -/
def prs (l : List Pr) : List Value := l.flatMap fun p => [.int .i64 p.1, .int .i64 p.2]

theorem prs_nil : prs [] = [] := rfl

theorem prs_length (l : List Pr) : (prs l).length = l.length * 2 := by
  induction l with
  | nil => rfl
  | cons x r ih => simp only [prs, List.flatMap_cons, List.length_append, List.length_cons, List.length_nil] at *; omega

theorem prs_append (l r : List Pr) : prs (l ++ r) = prs l ++ prs r := by simp [prs]

theorem prs_one (l : List Pr) : ∀ u ∈ prs l, u.oneCell' = true := by
  intro u hu
  obtain ⟨p, _, hp⟩ := List.mem_flatMap.1 hu
  simp at hp
  rcases hp with rfl | rfl <;> rfl

theorem prs_get : ∀ {l : List Pr} {i : Nat} (hi : i < l.length), (prs l)[i * 2]? = some (.int .i64 l[i].1) ∧ (prs l)[i * 2 + 1]? = some (.int .i64 l[i].2)
  | [], _, h => by simp at h
  | x :: r, 0, _ => by simp [prs]
  | x :: r, i + 1, h => by
    have := prs_get (l := r) (i := i) (by simpa using h)
    simp only [List.getElem_cons_succ]
    refine ⟨?_, ?_⟩
    · rw [show (i + 1) * 2 = i * 2 + 1 + 1 by omega]
      exact this.1
    · rw [show (i + 1) * 2 + 1 = i * 2 + 1 + 1 + 1 by omega]
      exact this.2

theorem prs_take (l : List Pr) (k : Nat) : (prs l).take (k * 2) = prs (l.take k) := by
  induction l generalizing k with
  | nil => simp [prs]
  | cons x r ih =>
    rcases k with _ | k
    · simp [prs]
    · rw [show (k + 1) * 2 = k * 2 + 1 + 1 by omega]
      simp only [prs, List.flatMap_cons, List.cons_append, List.nil_append, List.take_succ_cons] at *
      rw [ih k]

theorem prs_drop (l : List Pr) (k : Nat) : (prs l).drop (k * 2) = prs (l.drop k) := by
  induction l generalizing k with
  | nil => simp [prs]
  | cons x r ih =>
    rcases k with _ | k
    · simp [prs]
    · rw [show (k + 1) * 2 = k * 2 + 1 + 1 by omega]
      simp only [prs, List.flatMap_cons, List.cons_append, List.nil_append, List.drop_succ_cons] at *
      rw [ih k]

theorem prs_inj {l r : List Pr} (h : prs l = prs r) : l = r := by
  induction l generalizing r with
  | nil =>
    have := congrArg List.length h
    rw [prs_length, prs_length, List.length_nil] at this
    exact (List.eq_nil_of_length_eq_zero (by omega)).symm
  | cons x l ih =>
    rcases r with _ | ⟨y, r⟩
    · simp [prs] at h
    · simp only [prs, List.flatMap_cons, List.cons_append, List.nil_append, List.cons.injEq, Value.int.injEq, true_and] at h
      rw [pr_eq h.1 h.2.1, ih h.2.2]

/-- A pair of a slice that is seen. -/
theorem sees_pair {w : World} {B : Nat} {A : Option Addr} {l : List Pr} (h : Sees w B A (prs l)) {i : Nat} (hi : i < l.length) :
    ∃ b o, A = some ⟨b, o, none⟩ ∧ b < B ∧ w.cell? ⟨b, o + i * 2, none⟩ = some (.int .i64 l[i].1) ∧ w.cell? ⟨b, o + i * 2 + 1, none⟩ = some (.int .i64 l[i].2) := by
  obtain ⟨b, o, e, hb, hc⟩ := h (by
    intro e
    have := congrArg List.length e
    rw [prs_length, List.length_nil] at this
    omega)
  exact ⟨b, o, e, hb, hc _ _ (prs_get hi).1, by rw [Nat.add_assoc]; exact hc _ _ (prs_get hi).2⟩

end Go.Proofs.Ytkapmfopfddmbaa

/-
  The order of pairs: cmp.Compare, cmp.Or, compare, Less of both.
-/
namespace Go.Proofs.Ytkapmfopfddmbaa
open Go.RowKit
set_option linter.unusedVariables false

def orP (x y : Int) : Int := if x = 0 then y else x

theorem orP_0 {x : Int} (h : x = 0) (y : Int) : orP x y = y := if_pos h

theorem orP_1 {x : Int} (h : ¬ x = 0) (y : Int) : orP x y = x := if_neg h

/-- What the program's comparison gives. -/
def cmpP (p q : Pr) : Int := orP (Lib.compareInt p.1 q.1) (Lib.compareInt p.2 q.2)

theorem cmpP_lt (p q : Pr) : decide (cmpP p q < 0) = ltP p q := by
  unfold cmpP orP ltP Lib.compareInt
  by_cases h1 : p.1 < q.1
  · simp [h1]
  · by_cases h2 : q.1 < p.1
    · have h3 : ¬ p.1 = q.1 := by omega
      simp [h1, h2, h3]
    · have h3 : p.1 = q.1 := by omega
      by_cases h4 : p.2 < q.2
      · simp [h3, h4]
      · by_cases h5 : q.2 < p.2
        · simp [h3, h4, h5]
        · simp [h3, h4, h5]

theorem cmpP_zero (p q : Pr) : (cmpP p q == 0) = decide (p = q) := by
  unfold cmpP orP Lib.compareInt
  by_cases h1 : p.1 < q.1
  · have : p ≠ q := fun e => by subst e; omega
    simp [h1, this]
  · by_cases h2 : q.1 < p.1
    · have : p ≠ q := fun e => by subst e; omega
      simp [h1, h2, this]
    · have h3 : p.1 = q.1 := by omega
      by_cases h4 : p.2 < q.2
      · have : p ≠ q := fun e => by subst e; omega
        simp [h3, h4, this]
      · by_cases h5 : q.2 < p.2
        · have : p ≠ q := fun e => by subst e; omega
          simp [h3, h4, h5, this]
        · have : p = q := pr_eq h3 (by omega)
          simp [this]

theorem eq_pr (p q : Pr) (w : World) : (binOp .eql 112 (.agg #[.int .i64 p.1, .int .i64 p.2]) (.agg #[.int .i64 q.1, .int .i64 q.2])).run Try.prog w = .ok (.bool (decide (p = q))) w := by
  have u3 := Try.underlying3
  have a3 := Try.isAgg3
  have z3 := Try.sizeOf3
  have u23 := Try.underlying95
  have a23 := Try.isAgg95
  have z23 := Try.sizeOf95
  have hS : Try.prog.underlying 112 = some (.struct (Try.prog.fieldsOf 112)) := by kernel_rfl
  have hp : Try.prog.stoodInHeld 112 = false := by kernel_rfl
  rw [run_eql_struct, show (10000 : Nat) = 9999 + 1 from rfl, run_equalIn_agg w 9999 112 _ _ hS hp]
  simp only [Program.fieldsOf, Try.underlying112]
  obtain ⟨p1, p2⟩ := p
  obtain ⟨q1, q2⟩ := q
  go_simp
  by_cases h1 : p1 = q1 <;> by_cases h2 : p2 = q2 <;> simp [h1, h2]

theorem neq_pr (p q : Pr) (w : World) : (binOp .neq 112 (.agg #[.int .i64 p.1, .int .i64 p.2]) (.agg #[.int .i64 q.1, .int .i64 q.2])).run Try.prog w = .ok (.bool (!decide (p = q))) w := by
  have u3 := Try.underlying3
  have a3 := Try.isAgg3
  have z3 := Try.sizeOf3
  have u23 := Try.underlying95
  have a23 := Try.isAgg95
  have z23 := Try.sizeOf95
  have hS : Try.prog.underlying 112 = some (.struct (Try.prog.fieldsOf 112)) := by kernel_rfl
  have hp : Try.prog.stoodInHeld 112 = false := by kernel_rfl
  rw [run_neq_struct, show (10000 : Nat) = 9999 + 1 from rfl, run_equalIn_agg w 9999 112 _ _ hS hp]
  simp only [Program.fieldsOf, Try.underlying112]
  obtain ⟨p1, p2⟩ := p
  obtain ⟨q1, q2⟩ := q
  go_simp
  by_cases h1 : p1 = q1 <;> by_cases h2 : p2 = q2 <;> simp [h1, h2]

theorem guard_pr : Try.prog.eqGuardType Try.prog.depth 112 = false := by kernel_rfl

end Go.Proofs.Ytkapmfopfddmbaa

/-
  The reference's Same; Sorted of both.
-/
namespace Go.Proofs.Ytkapmfopfddmbaa
open Go.RowKit
set_option linter.unusedVariables false

theorem take_same {l r : List Pr} {k : Nat} (h : l.take k = r.take k) (hl : k < l.length) (hr : k < r.length) (he : l[k] = r[k]) : l.take (k + 1) = r.take (k + 1) := by
  rw [List.take_succ_eq_append_getElem hl, List.take_succ_eq_append_getElem hr, h, he]

end Go.Proofs.Ytkapmfopfddmbaa
