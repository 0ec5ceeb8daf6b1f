import Derived.Test.YtkapmfopfddmbaaGreatPk1
import Derived.Test.YtkapmfopfddmbaaGreatPk3
import Derived.Test.YtkapmfopfddmbaaGreatPk6
import Derived.Deep.DeepMust
import Derived.Deep.RegionWith
import Derived.Deep.RegionHeld3
import Derived.Deep.RegionHeldLaw

/-
  Sections as lists of numbers: what packing and splitting compute, and how the two belong together.
-/
namespace Go.Proofs.YtkapmfopfddmbaaGreat
open Go.RowKit
set_option linter.unusedVariables false

/-- One section's encoding; the packed form. -/
def encS (id : Nat) (x : List Nat) : List Nat := id :: (putS x.length ++ x)

def packS : List Nat → List (List Nat) → List Nat
  | id :: ids, x :: xs => encS id x ++ packS ids xs
  | _, _ => []

def sizeS : List (List Nat) → Nat
  | [] => 0
  | x :: xs => 1 + lenS x.length + x.length + sizeS xs

def totalS : List (List Nat) → Nat
  | [] => 0
  | x :: xs => x.length + totalS xs

/-- Reading one section: the error, the length of its head, the length of its contents. -/
def oneS (id : Nat) : List Nat → Nat × Nat × Nat
  | [] => (1, 0, 0)
  | x :: t => if x ≠ id then (7, 0, 0) else if (getS t).2.2 ≠ 0 then ((getS t).2.2, 0, 0) else if t.length < (getS t).2.1 + (getS t).1 then (1, 0, 0) else (0, 1 + (getS t).2.1, (getS t).1)

/-- Splitting: the error, the contents, what is left. -/
def splitF : List Nat → List Nat → Nat × List (List Nat) × List Nat
  | [], r => (0, [], r)
  | id :: ids, r => if (oneS id r).1 ≠ 0 then ((oneS id r).1, [], []) else
    ((splitF ids (r.drop ((oneS id r).2.1 + (oneS id r).2.2))).1, ((r.drop (oneS id r).2.1).take (oneS id r).2.2) :: (splitF ids (r.drop ((oneS id r).2.1 + (oneS id r).2.2))).2.1, (splitF ids (r.drop ((oneS id r).2.1 + (oneS id r).2.2))).2.2)

def splitE (ids l : List Nat) : Nat := if (splitF ids l).1 ≠ 0 then (splitF ids l).1 else if (splitF ids l).2.2 = [] then 0 else 2

theorem encS_length (id : Nat) (x : List Nat) : (encS id x).length = 1 + lenS x.length + x.length := by
  unfold encS lenS
  rw [List.length_cons, List.length_append]
  omega

theorem packS_size : ∀ (ids : List Nat) (xs : List (List Nat)), ids.length = xs.length → (packS ids xs).length = sizeS xs
  | [], [], _ => rfl
  | id :: ids, x :: xs, h => by
    rw [packS, sizeS, List.length_append, encS_length, packS_size ids xs (by simpa using h)]
  | [], _ :: _, h => by simp at h
  | _ :: _, [], h => by simp at h

theorem sizeS_le : ∀ xs : List (List Nat), sizeS xs ≤ 11 * xs.length + totalS xs
  | [] => by simp [sizeS]
  | x :: xs => by
    have := sizeS_le xs
    have := putS_le x.length
    rw [sizeS, totalS, List.length_cons]
    unfold lenS
    omega

theorem totalS_mem : ∀ (xs : List (List Nat)) (x : List Nat), x ∈ xs → x.length ≤ totalS xs
  | [], _, h => by simp at h
  | y :: xs, x, h => by
    rw [totalS]
    rcases List.mem_cons.1 h with rfl | h
    · omega
    · have := totalS_mem xs x h
      omega

theorem sizeS_append : ∀ (xs ys : List (List Nat)), sizeS (xs ++ ys) = sizeS xs + sizeS ys
  | [], ys => by simp [sizeS]
  | x :: xs, ys => by rw [List.cons_append, sizeS, sizeS, sizeS_append]; omega

theorem totalS_append : ∀ (xs ys : List (List Nat)), totalS (xs ++ ys) = totalS xs + totalS ys
  | [], ys => by simp [totalS]
  | x :: xs, ys => by rw [List.cons_append, totalS, totalS, totalS_append]; omega

theorem totalS_take (xs : List (List Nat)) (k : Nat) : totalS (xs.take k) ≤ totalS xs := by
  conv => rhs; rw [← List.take_append_drop k xs, totalS_append]
  omega

theorem sizeS_take (xs : List (List Nat)) (k : Nat) : sizeS (xs.take k) ≤ sizeS xs := by
  conv => rhs; rw [← List.take_append_drop k xs, sizeS_append]
  omega

theorem sizeS_step (xs : List (List Nat)) (k : Nat) (h : k < xs.length) : sizeS (xs.take (k + 1)) = sizeS (xs.take k) + (1 + lenS xs[k].length + xs[k].length) := by
  rw [List.take_succ_eq_append_getElem h, sizeS_append]
  rfl

theorem totalS_step (xs : List (List Nat)) (k : Nat) (h : k < xs.length) : totalS (xs.take (k + 1)) = totalS (xs.take k) + xs[k].length := by
  rw [List.take_succ_eq_append_getElem h, totalS_append]
  rfl

theorem packS_snoc : ∀ (ids : List Nat) (xs : List (List Nat)) (id : Nat) (x : List Nat), ids.length = xs.length → packS (ids ++ [id]) (xs ++ [x]) = packS ids xs ++ encS id x
  | [], [], id, x, _ => by simp [packS]
  | i :: ids, y :: xs, id, x, h => by
    rw [List.cons_append, List.cons_append, packS, packS, packS_snoc ids xs id x (by simpa using h), List.append_assoc]
  | [], _ :: _, _, _, h => by simp at h
  | _ :: _, [], _, _, h => by simp at h

theorem packS_step (ids : List Nat) (xs : List (List Nat)) (k : Nat) (h : k < xs.length) (h' : k < ids.length) : packS (ids.take (k + 1)) (xs.take (k + 1)) = packS (ids.take k) (xs.take k) ++ encS ids[k] xs[k] := by
  rw [List.take_succ_eq_append_getElem h, List.take_succ_eq_append_getElem h']
  exact packS_snoc _ _ _ _ (by rw [List.length_take, List.length_take]; omega)

theorem encS_byt {id : Nat} {x : List Nat} (hi : id < 256) (hx : ∀ c ∈ x, c < 256) (hl : x.length < 18446744073709551616) : ∀ c ∈ encS id x, c < 256 := by
  intro c hc
  unfold encS at hc
  rcases List.mem_cons.1 hc with rfl | hc
  · exact hi
  · rcases List.mem_append.1 hc with hc | hc
    · exact putS_byt _ (by (have : (18446744073709551616 : Nat) < 128 ^ 10 := by decide); omega) c hc
    · exact hx c hc

theorem packS_byt : ∀ (ids : List Nat) (xs : List (List Nat)), (∀ c ∈ ids, c < 256) → (∀ x ∈ xs, ∀ c ∈ x, c < 256) → (∀ x ∈ xs, x.length < 18446744073709551616) → ∀ c ∈ packS ids xs, c < 256
  | [], [], _, _, _ => by simp [packS]
  | [], _ :: _, _, _, _ => by simp [packS]
  | _ :: _, [], _, _, _ => by simp [packS]
  | id :: ids, x :: xs, h1, h2, h3 => by
    intro c hc
    rw [packS] at hc
    rcases List.mem_append.1 hc with hc | hc
    · exact encS_byt (h1 id (by simp)) (h2 x (by simp)) (h3 x (by simp)) c hc
    · exact packS_byt ids xs (fun c hc => h1 c (by simp [hc])) (fun x hx => h2 x (by simp [hx])) (fun x hx => h3 x (by simp [hx])) c hc

/-- A section's encoding, whatever follows, is read. -/
theorem oneS_enc (id : Nat) (x r : List Nat) (h : x.length < 18446744073709551616) : oneS id (encS id x ++ r) = (0, 1 + lenS x.length, x.length) := by
  unfold encS
  rw [List.cons_append, oneS, List.append_assoc, getS_putS _ _ h]
  rw [if_neg (by simp), if_neg (by simp), if_neg (by simp only [List.length_append]; omega)]
  rfl

theorem encS_drop (id : Nat) (x r : List Nat) : (encS id x ++ r).drop (1 + lenS x.length) = x ++ r := by
  unfold encS lenS
  rw [List.cons_append, Nat.add_comm 1, List.drop_succ_cons, List.append_assoc, List.drop_left]

theorem encS_drop2 (id : Nat) (x r : List Nat) : (encS id x ++ r).drop (1 + lenS x.length + x.length) = r := by
  rw [← List.drop_drop, encS_drop, List.drop_left]

theorem splitF_pack : ∀ (ids : List Nat) (xs : List (List Nat)) (r : List Nat), ids.length = xs.length → (∀ x ∈ xs, x.length < 18446744073709551616) → splitF ids (packS ids xs ++ r) = (0, xs, r)
  | [], [], r, _, _ => rfl
  | id :: ids, x :: xs, r, h, hx => by
    have ho := oneS_enc id x (packS ids xs ++ r) (hx x (by simp))
    rw [packS, List.append_assoc, splitF, ho, if_neg (by simp), encS_drop, encS_drop2, List.take_left, splitF_pack ids xs r (by simpa using h) fun y hy => hx y (by simp [hy])]
  | [], _ :: _, _, h, _ => by simp at h
  | _ :: _, [], _, h, _ => by simp at h

theorem split_pack (ids : List Nat) (xs : List (List Nat)) (h : ids.length = xs.length) (hx : ∀ x ∈ xs, x.length < 18446744073709551616) : splitF ids (packS ids xs) = (0, xs, []) := by
  have := splitF_pack ids xs [] h hx
  rwa [List.append_nil] at this

theorem splitE_pack (ids : List Nat) (xs : List (List Nat)) (h : ids.length = xs.length) (hx : ∀ x ∈ xs, x.length < 18446744073709551616) : splitE ids (packS ids xs) = 0 := by
  unfold splitE
  rw [split_pack ids xs h hx]
  rfl

theorem splitE_long (ids : List Nat) (xs : List (List Nat)) (y : Nat) (h : ids.length = xs.length) (hx : ∀ x ∈ xs, x.length < 18446744073709551616) : splitE ids (packS ids xs ++ [y]) = 2 := by
  unfold splitE
  rw [splitF_pack ids xs [y] h hx]
  simp

/-- What is read is the encoding of what it is read as. -/
theorem oneS_canon {id : Nat} {l : List Nat} (hb : ∀ c ∈ l, c < 256) {h v : Nat} (he : oneS id l = (0, h, v)) : encS id ((l.drop h).take v) = l.take (h + v) ∧ h + v ≤ l.length ∧ ((l.drop h).take v).length = v := by
  cases l with
  | nil => simp [oneS] at he
  | cons x t =>
    rw [oneS] at he
    by_cases h1 : x = id
    case neg => rw [if_pos h1] at he; simp at he
    rw [if_neg (by simpa using h1)] at he
    by_cases h2 : (getS t).2.2 = 0
    case neg => rw [if_pos h2] at he; exact absurd (congrArg Prod.fst he) h2
    rw [if_neg (by simpa using h2)] at he
    by_cases h3 : t.length < (getS t).2.1 + (getS t).1
    · rw [if_pos h3] at he; simp at he
    rw [if_neg h3] at he
    injection he with _ he
    injection he with e1 e2
    obtain ⟨n1, n2, n3⟩ := getS_canon (l := t) (fun c hc => hb c (by simp [hc])) (x := (getS t).1) (n := (getS t).2.1) (by rw [← h2])
    rw [e2] at n3 h3
    generalize (getS t).2.1 = n at *
    subst h1
    subst e1
    have hl : ((t.drop n).take v).length = v := by rw [List.length_take, List.length_drop]; omega
    have hd : (x :: t).drop (1 + n) = t.drop n := by rw [Nat.add_comm, List.drop_succ_cons]
    rw [hd]
    refine ⟨?_, by rw [List.length_cons]; omega, hl⟩
    unfold encS
    rw [hl, n3, show 1 + n + v = (n + v) + 1 by omega, List.take_succ_cons, ← List.take_add]

theorem splitF_canon : ∀ (ids l : List Nat), (∀ c ∈ l, c < 256) → (splitF ids l).1 = 0 → packS ids (splitF ids l).2.1 ++ (splitF ids l).2.2 = l ∧ (splitF ids l).2.1.length = ids.length
  | [], l, _, _ => ⟨by simp [splitF, packS], rfl⟩
  | id :: ids, l, hb, h => by
    rw [splitF] at h ⊢
    by_cases h1 : (oneS id l).1 = 0
    case neg => rw [if_pos h1] at h; exact absurd h h1
    rw [if_neg (by simpa using h1)] at h ⊢
    obtain ⟨c1, c2, c3⟩ := oneS_canon (id := id) hb (h := (oneS id l).2.1) (v := (oneS id l).2.2) (by rw [← h1])
    obtain ⟨r1, r2⟩ := splitF_canon ids (l.drop ((oneS id l).2.1 + (oneS id l).2.2)) (fun c hc => hb c (List.mem_of_mem_drop hc)) h
    refine ⟨?_, by simp [r2]⟩
    show packS (id :: ids) (_ :: _) ++ _ = l
    rw [packS, List.append_assoc]
    show _ ++ (packS ids _ ++ _) = l
    rw [r1, c1, List.take_append_drop]

theorem splitE_zero {ids l : List Nat} (h : splitE ids l = 0) : (splitF ids l).1 = 0 ∧ (splitF ids l).2.2 = [] := by
  unfold splitE at h
  by_cases h1 : (splitF ids l).1 = 0
  case neg => rw [if_pos h1] at h; exact absurd h h1
  rw [if_neg (by simpa using h1)] at h
  refine ⟨h1, ?_⟩
  by_cases h2 : (splitF ids l).2.2 = []
  · exact h2
  · rw [if_neg h2] at h; cases h

theorem split_canon {ids l : List Nat} (hb : ∀ c ∈ l, c < 256) (h : splitE ids l = 0) : packS ids (splitF ids l).2.1 = l ∧ (splitF ids l).2.1.length = ids.length := by
  obtain ⟨h1, h2⟩ := splitE_zero h
  obtain ⟨h3, h4⟩ := splitF_canon ids l hb h1
  rw [h2, List.append_nil] at h3
  exact ⟨h3, h4⟩

theorem oneS_cut (id : Nat) (x : List Nat) (k : Nat) (hk : k < (encS id x).length) (h : x.length < 18446744073709551616) : oneS id ((encS id x).take k) = (1, 0, 0) := by
  rw [encS_length] at hk
  cases k with
  | zero => rfl
  | succ j =>
    unfold encS
    rw [List.take_succ_cons, oneS, if_neg (by simp)]
    by_cases hj : j < lenS x.length
    · rw [List.take_append_of_le_length (by unfold lenS at hj; omega), getS_prefix _ _ hj, if_pos (by simp)]
    · obtain ⟨q, rfl⟩ : ∃ q, j = lenS x.length + q := ⟨j - lenS x.length, by omega⟩
      have : (putS x.length ++ x).take (lenS x.length + q) = putS x.length ++ x.take q := by
        unfold lenS
        rw [List.take_append, List.take_of_length_le (by omega)]
        simp
      rw [this, getS_putS _ _ h, if_neg (by simp), if_pos (by simp only [List.length_append, List.length_take]; omega)]

theorem splitF_cut : ∀ (ids : List Nat) (xs : List (List Nat)) (k : Nat), ids.length = xs.length → (∀ x ∈ xs, x.length < 18446744073709551616) → k < (packS ids xs).length → (splitF ids ((packS ids xs).take k)).1 = 1
  | [], [], k, _, _, hk => by simp [packS] at hk
  | id :: ids, x :: xs, k, h, hx, hk => by
    rw [packS] at hk ⊢
    rw [splitF]
    have hxl := hx x (by simp)
    by_cases h1 : k < (encS id x).length
    · rw [List.take_append_of_le_length (by omega), oneS_cut id x k h1 hxl, if_pos (by simp)]
    · obtain ⟨q, rfl⟩ : ∃ q, k = (encS id x).length + q := ⟨k - (encS id x).length, by omega⟩
      have e : (encS id x ++ packS ids xs).take ((encS id x).length + q) = encS id x ++ (packS ids xs).take q := by
        rw [List.take_append, List.take_of_length_le (by omega)]
        simp
      rw [e, oneS_enc id x _ hxl, if_neg (by simp), encS_drop2]
      rw [List.length_append] at hk
      exact splitF_cut ids xs q (by simpa using h) (fun y hy => hx y (by simp [hy])) (by omega)
  | [], _ :: _, _, h, _, _ => by simp at h
  | _ :: _, [], _, h, _, _ => by simp at h

theorem splitE_cut (ids : List Nat) (xs : List (List Nat)) (k : Nat) (h : ids.length = xs.length) (hx : ∀ x ∈ xs, x.length < 18446744073709551616) (hk : k < (packS ids xs).length) : splitE ids ((packS ids xs).take k) = 1 := by
  unfold splitE
  rw [splitF_cut ids xs k h hx hk]
  rfl

theorem splitF_other : ∀ (ids : List Nat) (xs : List (List Nat)) (i y : Nat) (hi : i < ids.length), ids.length = xs.length → (∀ x ∈ xs, x.length < 18446744073709551616) → ids[i] ≠ y → (splitF (ids.set i y) (packS ids xs)).1 = 7
  | id :: ids, x :: xs, 0, y, _, h, hx, hy => by
    rw [List.set_cons_zero, splitF]
    have : oneS y (packS (id :: ids) (x :: xs)) = (7, 0, 0) := by
      rw [packS, encS, List.cons_append, oneS, if_pos (by simpa using hy)]
    rw [this, if_pos (by simp)]
  | id :: ids, x :: xs, i + 1, y, hi, h, hx, hy => by
    rw [List.set_cons_succ, splitF, packS, oneS_enc id x _ (hx x (by simp)), if_neg (by simp), encS_drop2]
    exact splitF_other ids xs i y (by simpa using hi) (by simpa using h) (fun y hy => hx y (by simp [hy])) (by simpa using hy)
  | [], _, i, _, hi, _, _, _ => by simp at hi
  | _ :: _, [], _, _, _, h, _, _ => by simp at h

theorem splitE_other (ids : List Nat) (xs : List (List Nat)) (i y : Nat) (hi : i < ids.length) (h : ids.length = xs.length) (hx : ∀ x ∈ xs, x.length < 18446744073709551616) (hy : ids[i] ≠ y) : splitE (ids.set i y) (packS ids xs) = 7 := by
  unfold splitE
  rw [splitF_other ids xs i y hi h hx hy]
  rfl

/-- Part of the way: k identifiers are read, the contents are xs, and a bytes are behind. -/
def SplitAt (ids l : List Nat) (k a : Nat) (xs : List (List Nat)) : Prop :=
  splitF ids l = ((splitF (ids.drop k) (l.drop a)).1, xs ++ (splitF (ids.drop k) (l.drop a)).2.1, (splitF (ids.drop k) (l.drop a)).2.2)

section
variable {ids l : List Nat} {k a : Nat} {xs : List (List Nat)}

theorem SplitAt.zero (ids l : List Nat) : SplitAt ids l 0 0 [] := by simp [SplitAt]

theorem SplitAt.bad (h : SplitAt ids l k a xs) (hk : k < ids.length) {e : Nat} (he : (oneS ids[k] (l.drop a)).1 = e) (h0 : e ≠ 0) : splitE ids l = e := by
  subst he
  have : (splitF ids l).1 = (oneS ids[k] (l.drop a)).1 := by
    rw [h, List.drop_eq_getElem_cons hk, splitF, if_pos h0]
  unfold splitE
  rw [this, if_pos h0]

theorem SplitAt.step (h : SplitAt ids l k a xs) (hk : k < ids.length) {hd v : Nat} (he : oneS ids[k] (l.drop a) = (0, hd, v)) : SplitAt ids l (k + 1) (a + hd + v) (xs ++ [(l.drop (a + hd)).take v]) := by
  unfold SplitAt at *
  rw [h, List.drop_eq_getElem_cons hk, splitF, he, if_neg (by simp)]
  simp only [List.drop_drop, List.append_assoc, List.singleton_append, Nat.add_assoc]

theorem SplitAt.last (h : SplitAt ids l k a xs) (hk : ids.length ≤ k) : splitF ids l = (0, xs, l.drop a) := by
  rw [h, List.drop_eq_nil_of_le hk, splitF, List.append_nil]

theorem SplitAt.fit (h : SplitAt ids l k a xs) (hk : ids.length ≤ k) (ha : l.length ≤ a) : splitE ids l = 0 ∧ (splitF ids l).2.1 = xs := by
  have := h.last hk
  unfold splitE
  rw [this, List.drop_eq_nil_of_le ha]
  simp

theorem SplitAt.long (h : SplitAt ids l k a xs) (hk : ids.length ≤ k) (ha : a < l.length) : splitE ids l = 2 := by
  have := h.last hk
  unfold splitE
  rw [this, if_neg (by simp), if_neg]
  intro e
  have := congrArg List.length e
  rw [List.length_drop, List.length_nil] at this
  omega

end

end Go.Proofs.YtkapmfopfddmbaaGreat

/-
  Words for memory: values that show lists of bytes, a slice of byte slices that is seen, and one that a call owns.
-/
namespace Go.Proofs.YtkapmfopfddmbaaGreat
open Go.RowKit
set_option linter.unusedVariables false

/-- The values vs are byte slices below block B that show the lists xs. -/
def Cells (w : World) (B : Nat) (vs : List Value) (xs : List (List Nat)) : Prop :=
  vs.length = xs.length ∧ ∀ (i : Nat) (x : List Nat), xs[i]? = some x → ∃ A c, vs[i]? = some (Value.slice A x.length c) ∧ x.length ≤ c ∧ c ≤ maxLen ∧ Sees w B A (bts x)

/-- The slice address A shows byte slices that show the lists xs, all below block B. -/
def SeesL (w : World) (B : Nat) (A : Option Addr) (xs : List (List Nat)) : Prop := ∃ vs, Sees w B A vs ∧ Cells w B vs xs

section
variable {w w' : World} {B B' : Nat} {A : Option Addr} {vs : List Value} {xs : List (List Nat)}

theorem Cells.nil (w : World) (B : Nat) : Cells w B [] [] := ⟨rfl, fun i x h => by simp at h⟩

theorem Cells.keep (h : Cells w B vs xs) (hk : ∀ p : Addr, p.block < B → w'.cell? p = w.cell? p) : Cells w' B vs xs :=
  ⟨h.1, fun i x hx => by
    obtain ⟨A, c, h1, h2, h3, h4⟩ := h.2 i x hx
    exact ⟨A, c, h1, h2, h3, h4.keep hk⟩⟩

theorem Cells.more (h : Cells w B vs xs) (hB : B ≤ B') : Cells w B' vs xs :=
  ⟨h.1, fun i x hx => by
    obtain ⟨A, c, h1, h2, h3, h4⟩ := h.2 i x hx
    exact ⟨A, c, h1, h2, h3, h4.more hB⟩⟩

theorem Cells.below (h : Cells w B vs xs) (hb : Below B w w') : Cells w' B vs xs := h.keep fun _ hp => hb.cell hp

theorem Cells.drewN (h : Cells w B vs xs) (n : Nat) : Cells (w.drewN n) B vs xs := h.keep fun _ _ => rfl

theorem Cells.snoc (h : Cells w B vs xs) {A : Option Addr} {x : List Nat} {c : Nat} (hc : x.length ≤ c) (hm : c ≤ maxLen) (hs : Sees w B A (bts x)) : Cells w B (vs ++ [Value.slice A x.length c]) (xs ++ [x]) := by
  refine ⟨by simp [h.1], fun i y hy => ?_⟩
  rcases Nat.lt_trichotomy i xs.length with hi | hi | hi
  · rw [List.getElem?_append_left hi] at hy
    obtain ⟨A, c, h1, h2⟩ := h.2 i y hy
    exact ⟨A, c, by rw [List.getElem?_append_left (by rw [h.1]; exact hi)]; exact h1, h2⟩
  · subst hi
    rw [List.getElem?_append_right (Nat.le_refl _), Nat.sub_self] at hy
    injection hy with hy
    subst hy
    exact ⟨A, c, by rw [List.getElem?_append_right (by rw [h.1]; exact Nat.le_refl _), h.1, Nat.sub_self]; rfl, hc, hm, hs⟩
  · rw [List.getElem?_eq_none (by simp; omega)] at hy
    cases hy

theorem Cells.one (h : Cells w B vs xs) : ∀ u ∈ vs, u.oneCell' = true := by
  intro u hu
  obtain ⟨i, hi, rfl⟩ := List.getElem_of_mem hu
  have hi' : i < xs.length := by rw [← h.1]; exact hi
  obtain ⟨A, c, h1, _⟩ := h.2 i xs[i] (List.getElem?_eq_getElem hi')
  rw [List.getElem?_eq_getElem hi] at h1
  injection h1 with h1
  rw [h1]
  rfl

theorem SeesL.keep (h : SeesL w B A xs) (hk : ∀ p : Addr, p.block < B → w'.cell? p = w.cell? p) : SeesL w' B A xs := by
  obtain ⟨vs, h1, h2⟩ := h
  exact ⟨vs, h1.keep hk, h2.keep hk⟩

theorem SeesL.more (h : SeesL w B A xs) (hB : B ≤ B') : SeesL w B' A xs := by
  obtain ⟨vs, h1, h2⟩ := h
  exact ⟨vs, h1.more hB, h2.more hB⟩

theorem SeesL.below (h : SeesL w B A xs) (hb : Below B w w') : SeesL w' B A xs := h.keep fun _ hp => hb.cell hp

theorem SeesL.drewN (h : SeesL w B A xs) (n : Nat) : SeesL (w.drewN n) B A xs := h.keep fun _ _ => rfl

theorem SeesL.alloc (h : SeesL w B A xs) (hB : B ≤ w.heap.size) (o : Obj) : SeesL (w.alloc o) B A xs := h.keep fun p hp => World.cell?_alloc_lt w o p (by omega)

theorem SeesL.nil : SeesL w B A [] := ⟨[], Sees.nil, Cells.nil w B⟩

theorem SeesL.at_ (h : SeesL w B A xs) {i : Nat} (hi : i < xs.length) :
    ∃ b o Ai ci, A = some ⟨b, o, none⟩ ∧ b < B ∧ w.cell? ⟨b, o + i, none⟩ = some (.slice Ai xs[i].length ci) ∧ xs[i].length ≤ ci ∧ ci ≤ maxLen ∧ Sees w B Ai (bts xs[i]) := by
  obtain ⟨vs, h1, h2, h3⟩ := h
  obtain ⟨Ai, ci, h4, h5, h6, h7⟩ := h3 i xs[i] (List.getElem?_eq_getElem hi)
  obtain ⟨b, o, hA, hb, hc⟩ := h1 (by intro e; subst e; simp at h4)
  exact ⟨b, o, Ai, ci, hA, hb, hc i _ h4, h5, h6, h7⟩

end

theorem infoSl : (Tryz.prog.info? 33).map (fun i => (i.zero, i.size, i.bytes)) = some (some (.slice none 0 0), 1, 24) := by kernel_rfl

/-- A byte slice, seen at length n. -/
theorem Sees.len {w : World} {B : Nat} {A : Option Addr} {l : List Nat} (h : Sees w B A (bts l)) (h0 : A = none) : l = [] := by
  rcases l with _ | ⟨x, r⟩
  · rfl
  · obtain ⟨b, o, e, _⟩ := h (by simp [bts])
    rw [h0] at e
    cases e

end Go.Proofs.YtkapmfopfddmbaaGreat

/-
  Pack; the reference's One and Pack.
-/
namespace Go.Proofs.YtkapmfopfddmbaaGreat
open Go.RowKit
set_option linter.unusedVariables false

/-- What Pack returns: the packed form, in memory of its own. -/
def PackP (w : World) (l : List Nat) (e : Ending) (w' : World) : Prop :=
  ∃ A' c', e = .returned (.tuple #[.slice A' l.length c', .int .i64 0]) ∧ w'.ownsRow w.heap.size 5 1 (.slice A' l.length c') l.length (bts l) ∧ Below w.heap.size w w'

theorem sizeS_take_len (ids : List Nat) (xs : List (List Nat)) (k : Nat) (h : ids.length = xs.length) : (packS (ids.take k) (xs.take k)).length ≤ sizeS xs := by
  rw [packS_size _ _ (by rw [List.length_take, List.length_take, h])]
  exact sizeS_take xs k

set_option maxRecDepth 100000 in
set_option maxHeartbeats 1000000 in
theorem one_any (B : Nat) (A : Option Addr) (id : Nat) (x : List Nat) (c : Nat) (w : World) (hs : Sees w B A (bts x)) (hB : B ≤ w.heap.size) (hid : id < 256) (hm : x.length ≤ 1000000) :
    Calls Tryz.prog 34 #[.int .u8 id, .slice A x.length c] w (Fresh w (encS id x)) := by
  obtain ⟨i0, hi0, hz0, hz1, hz2'⟩ := info_parts infoU8
  have HS := Lib.hid (hs.more hB)
  have HP := Lib.hid (rput_any (x.length : Int) (w.alloc (.cells #[.int .u8 id] 5)) (by omega) (by omega))
  have hpl : lenS x.length ≤ 10 := putS_le x.length
  have HLE := Lib.hid (encS_length id x)
  clear hs
  go_enter Tryz.func34, Tryz.ntmps34
  go_wp2_with fail
  refine HP.out.mono ?_
  rintro e W1 ⟨g, c1, rfl, ho1, hb1⟩
  rw [Int.toNat_natCast] at ho1
  have hno : (w.alloc (.cells #[.int .u8 id] 5)).ownsRow w.heap.size 5 1 (.slice (some ⟨w.heap.size, 0, none⟩) 1 1) 1 (bts [id]) :=
    ⟨rfl, .inr ⟨w.heap.size, 1, _, rfl, Nat.le_refl _, heap_alloc_new w _, Nat.le_refl _, by decide, rfl, rfl⟩⟩
  have hn1 := (Mods.of_below (S := No) hb1).own hno fun _ _ h => h
  have HN1 := Lib.hid hn1
  have HO1 := Lib.hid ho1
  have hzz : w.heap.size + 1 ≤ W1.heap.size := by have := hb1.size; simpa using this
  have HB1 := Lib.hid (((Below.refl w.heap.size w).alloc (Nat.le_refl _) (.cells #[.int .u8 id] 5)).trans (hb1.mono (by simp)))
  clear ho1 hb1 hno hn1 HP
  go_wp2_with (at_builtin; refine wpList_append_sees _ rfl (.tmp 7) (.tmp 11) 33 rfl w.heap.size 5 i0 (.int .u8 0) 1 Tryz.underlying33 hi0 hz0 hz1 hz2' rfl _ _ _ rfl HN1.out W1.heap.size _ _ _ (bts (putS x.length)) rfl (Sees.of_own HO1.out) (bts_length _) (bts_one _) ?c1 ?c2 ?c3 ?_)
  case c1 => unfold maxLen; omega
  case c2 => omega
  case c3 => omega
  intro v1 W2 ho2 hg2
  have HB2 := Lib.hid (HB1.out.grown hg2 (by omega) fun k hk => by
    simp only [Value.ownBlock, Option.some.injEq] at hk
    omega)
  rw [← bts_append] at ho2
  have HO2 := Lib.hid ho2
  have HS2 := Lib.hid (HS.out.below HB2.out)
  have hz2 : w.heap.size ≤ W2.heap.size := HB2.out.size
  clear ho2 hg2 HB1 HN1 HO1 HS
  go_wp2_with (at_builtin; refine wpList_append_sees _ rfl (.tmp 13) (.tmp 14) 33 rfl w.heap.size 5 i0 (.int .u8 0) 1 Tryz.underlying33 hi0 hz0 hz1 hz2' rfl _ _ _ rfl HO2.out w.heap.size _ _ _ (bts x) rfl HS2.out (bts_length _) (bts_one _) ?d1 ?d2 ?d3 ?_)
  case d1 => unfold maxLen; omega
  case d2 => omega
  case d3 => omega
  intro v2 W3 ho3 hg3
  have HB3 := Lib.hid (HB2.out.grown hg3 hz2 fun k hk => (own_lt HO2.out k hk).1)
  have HO3 : Hid (W3.ownsRow w.heap.size 5 1 v2 (encS id x).length (bts (encS id x))) := by
    rw [HLE.out]
    rw [← bts_append] at ho3
    exact ho3
  obtain ⟨A3, c3, rfl, _, _⟩ := own_slice HO3.out (bts_length _)
  clear ho3 hg3
  go_wp2
  go_ret
  exact ⟨A3, c3, rfl, HO3.out, HB3.out⟩

theorem own_news {w : World} {base n g c : Nat} {e : TypeId} {xs : List Value} (h : w.ownsRow base e 1 (.slice (some ⟨g, 0, none⟩) n c) n xs) : ∀ j u, xs[j]? = some u → w.cell? ((⟨g, 0, none⟩ : Addr).add j) = some u := fun j u hu => h.cells (g := g) rfl j u hu

set_option maxRecDepth 100000 in
set_option maxHeartbeats 2000000 in
theorem rpack_any (B : Nat) (A A' : Option Addr) (ids : List Nat) (xs : List (List Nat)) (c c' : Nat) (w : World) (hi : Sees w B A (bts ids)) (hs : SeesL w B A' xs) (hB : B ≤ w.heap.size) (hlen : ids.length = xs.length) (hby : Byt ids) (hn : xs.length ≤ 1000) (hm : sizeS xs ≤ 1000000) (htot : totalS xs ≤ 1000000) :
    Calls Tryz.prog 13 #[.slice A ids.length c, .slice A' xs.length c'] w (Fresh w (packS ids xs)) := by
  obtain ⟨i0, hi0, hz0, hz1, hz2⟩ := info_parts infoU8
  have HL := Lib.hid hlen
  have HBY := Lib.hid hby
  clear hlen hby
  go_enter Tryz.func13, Tryz.ntmps13
  go_wp2
  go_loopw [5, 6] (fun s j wr => ∃ (k : Nat) (v : Value), k ≤ xs.length ∧ v = s ∧ j = .int .i64 k ∧ Hid (wr.ownsRow w.heap.size 5 1 v (packS (ids.take k) (xs.take k)).length (bts (packS (ids.take k) (xs.take k)))) ∧ Hid (Below w.heap.size w wr)) (fun _ j _ => xs.length - (intOf j).toNat)
  case atStart => exact ⟨0, _, Nat.zero_le _, rfl, rfl, ⟨rfl, .inl ⟨rfl, rfl⟩⟩, Below.refl _ _⟩
  case round =>
    obtain ⟨k, v, hk, rfl, rfl, HO, HB⟩ := hrel
    by_cases hlt : k < xs.length
    · have hlti : k < ids.length := by have := HL.out; omega
      have hi0' := (hi.more hB).below HB.out
      have hs0 := (hs.more hB).below HB.out
      obtain ⟨b, o, rfl, hbl, hc⟩ := hi0' (bts_ne hlti)
      have hcell : wr.cell? ⟨b, o + k, none⟩ = some (.int .u8 (ids[k] : Int)) := hc k _ (by simp [bts, hlti])
      obtain ⟨b', o', Ai, ci, rfl, hbl', hcell', hci, hcm, hsi⟩ := hs0.at_ hlt
      have HX := Lib.hid (And.intro hcell hcell')
      have hx : ids[k] < 256 := HBY.out _ (List.getElem_mem hlti)
      have HT := Lib.hid (packS_step ids xs k hlt hlti)
      have hl1 := sizeS_take_len ids xs k HL.out
      have hxl : xs[k].length ≤ 1000000 := Nat.le_trans (totalS_mem xs _ (List.getElem_mem hlt)) htot
      have hbz := HB.out.size
      have HC : Hid (∀ w0, (∃ m, w0 = wr.drewN m) → Calls Tryz.prog 34 #[.int .u8 ids[k], .slice Ai xs[k].length ci] w0 fun e w' => ∃ g cap, e = .returned (.slice (some ⟨g, 0, none⟩) (encS ids[k] xs[k]).length cap) ∧
          w'.ownsRow wr.heap.size 5 1 (.slice (some ⟨g, 0, none⟩) (encS ids[k] xs[k]).length cap) (encS ids[k] xs[k]).length (bts (encS ids[k] xs[k])) ∧ Below wr.heap.size wr w') := fun w0 ⟨m, hm⟩ => by
        subst hm
        refine (one_any w.heap.size Ai ids[k] xs[k] ci (wr.drewN m) (hsi.drewN m) hbz hx hxl).mono ?_
        rintro e w' ⟨A9, c9, rfl, h1, h2⟩
        obtain ⟨g, cap, hv, _⟩ := h1.form (by rw [encS_length]; omega)
        rw [hv] at h1 ⊢
        exact ⟨g, cap, rfl, h1, below_unN h2 (Nat.le_refl _)⟩
      have HLE := Lib.hid (encS_length ids[k] xs[k])
      have hpl : lenS xs[k].length ≤ 10 := putS_le _
      have hle2 : 1 ≤ (encS ids[k] xs[k]).length ∧ (encS ids[k] xs[k]).length ≤ 1000011 := by rw [encS_length]; omega
      clear hi0' hs0 hc hsi hi hs hcell hcell'
      generalize ids[k] = id at *
      generalize xs[k] = x at *
      go_wp2_with fail
      go_region_held_law (fun w' => w'.cell? ⟨b, o + k, none⟩ = some (.int .u8 (id : Int)) ∧ w'.cell? ⟨b', o' + k, none⟩ = some (.slice Ai x.length ci)) (first | exact HX.out | exact hXa | exact hXb) (first
        | (go_at_call 34; go_must ((with_reducible refine (HC.out _ (by first | exact ⟨1, rfl⟩ | exact ⟨0, rfl⟩ | exact ⟨_, rfl⟩)).mono ?_); rintro e Wa ⟨g1, ca, rfl, ho, hb⟩; have HOa := Lib.hid ho; have HBb := Lib.hid (HB.out.trans (hb.mono hbz)); have hza := HBb.out.size; have HVa := Lib.hid ((Mods.of_below (S := No) hb).own HO.out (fun _ _ h => h)); have hXa : Wa.cell? ⟨b, o + k, none⟩ = some (.int .u8 (id : Int)) ∧ Wa.cell? ⟨b', o' + k, none⟩ = some (.slice Ai x.length ci) := (And.intro ((hb.cell (p := ⟨b, o + k, none⟩) (by show b < _; omega)).trans HX.out.1) ((hb.cell (p := ⟨b', o' + k, none⟩) (by show b' < _; omega)).trans HX.out.2)); clear ho hb))
        | (refine step_append_lies _ rfl (.tmp 13) (.tmp 22) 33 rfl w.heap.size 5 i0 (.int .u8 0) 1 1 Tryz.underlying33 hi0 hz0 hz1 hz2 rfl (by decide) _ _ _ rfl HVa.out ⟨g1, 0, none⟩ _ _ (bts (encS id x)) rfl (by rw [bts_length, Nat.mul_one]) (own_news HOa.out) (bts_one _) (by omega) (by unfold maxLen; omega) (by omega) (by omega) _ rfl ?_; intro g2 cap2 W2 ho2 hg2 hat2 hlt2; have HO2 := Lib.hid ho2; have HB2 := Lib.hid (HBb.out.grown hg2 (by omega) (fun k hk => (own_lt HVa.out k hk).1)); have hXb : W2.cell? ⟨b, o + k, none⟩ = some (.int .u8 (id : Int)) ∧ W2.cell? ⟨b', o' + k, none⟩ = some (.slice Ai x.length ci) := (And.intro ((HB2.out.cell (p := ⟨b, o + k, none⟩) hbl).trans ((HB.out.cell (p := ⟨b, o + k, none⟩) hbl).symm.trans HX.out.1)) ((HB2.out.cell (p := ⟨b', o' + k, none⟩) hbl').trans ((HB.out.cell (p := ⟨b', o' + k, none⟩) hbl').symm.trans HX.out.2))); clear ho2 hg2)
        )
      clear HX hXa hXb HC HOa HVa HO HB
      go_wp2
      go_roundw
      case rel => exact ⟨k + 1, _, by omega, rfl, by go_num, by
        rw [HT.out, List.length_append, bts_append]
        exact HO2.out, HB2.out⟩
      case measure => simp [intOf]; omega
    · obtain rfl : k = xs.length := by omega
      rw [← HL.out, List.take_length, HL.out, List.take_length] at HO
      obtain ⟨A3, c3, rfl, _, _⟩ := own_slice HO.out (bts_length _)
      go_wp2
      go_ret
      exact ⟨A3, c3, rfl, HO.out, HB.out⟩

end Go.Proofs.YtkapmfopfddmbaaGreat
