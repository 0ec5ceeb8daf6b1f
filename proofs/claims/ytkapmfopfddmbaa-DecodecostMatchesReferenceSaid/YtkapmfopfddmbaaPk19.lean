import Derived.Test.YtkapmfopfddmbaaPk1
import Derived.Test.YtkapmfopfddmbaaPk3
import Derived.Test.YtkapmfopfddmbaaPk6
import Derived.Deep.DeepMust
import Derived.Deep.RegionWith
import Derived.Deep.RegionHeld3
import Derived.Deep.RegionHeldLaw

/-
  Sections as lists of numbers: what packing and splitting compute, and how the two belong together.
-/
namespace Go.Proofs.Ytkapmfopfddmbaa
open Go.RowKit
set_option linter.unusedVariables false

/-- One section's encoding; the packed form. -/
def encS (id : Nat) (x : List Nat) : List Nat := id :: (putS x.length ++ x)

def packS : List Nat → List (List Nat) → List Nat
  | id :: ids, x :: xs => encS id x ++ packS ids xs
  | _, _ => []

def sizeS : List (List Nat) → Nat
  | [] => 0
  | x :: xs => 1 + lenS x.length + x.length + sizeS xs

def totalS : List (List Nat) → Nat
  | [] => 0
  | x :: xs => x.length + totalS xs

/-- Reading one section: the error, the length of its head, the length of its contents. -/
def oneS (id : Nat) : List Nat → Nat × Nat × Nat
  | [] => (1, 0, 0)
  | x :: t => if x ≠ id then (7, 0, 0) else if (getS t).2.2 ≠ 0 then ((getS t).2.2, 0, 0) else if t.length < (getS t).2.1 + (getS t).1 then (1, 0, 0) else (0, 1 + (getS t).2.1, (getS t).1)

/-- Splitting: the error, the contents, what is left. -/
def splitF : List Nat → List Nat → Nat × List (List Nat) × List Nat
  | [], r => (0, [], r)
  | id :: ids, r => if (oneS id r).1 ≠ 0 then ((oneS id r).1, [], []) else
    ((splitF ids (r.drop ((oneS id r).2.1 + (oneS id r).2.2))).1, ((r.drop (oneS id r).2.1).take (oneS id r).2.2) :: (splitF ids (r.drop ((oneS id r).2.1 + (oneS id r).2.2))).2.1, (splitF ids (r.drop ((oneS id r).2.1 + (oneS id r).2.2))).2.2)

def splitE (ids l : List Nat) : Nat := if (splitF ids l).1 ≠ 0 then (splitF ids l).1 else if (splitF ids l).2.2 = [] then 0 else 2

theorem encS_length (id : Nat) (x : List Nat) : (encS id x).length = 1 + lenS x.length + x.length := by
  unfold encS lenS
  rw [List.length_cons, List.length_append]
  omega

theorem packS_size : ∀ (ids : List Nat) (xs : List (List Nat)), ids.length = xs.length → (packS ids xs).length = sizeS xs
  | [], [], _ => rfl
  | id :: ids, x :: xs, h => by
    rw [packS, sizeS, List.length_append, encS_length, packS_size ids xs (by simpa using h)]
  | [], _ :: _, h => by simp at h
  | _ :: _, [], h => by simp at h

theorem sizeS_le : ∀ xs : List (List Nat), sizeS xs ≤ 11 * xs.length + totalS xs
  | [] => by simp [sizeS]
  | x :: xs => by
    have := sizeS_le xs
    have := putS_le x.length
    rw [sizeS, totalS, List.length_cons]
    unfold lenS
    omega

theorem totalS_mem : ∀ (xs : List (List Nat)) (x : List Nat), x ∈ xs → x.length ≤ totalS xs
  | [], _, h => by simp at h
  | y :: xs, x, h => by
    rw [totalS]
    rcases List.mem_cons.1 h with rfl | h
    · omega
    · have := totalS_mem xs x h
      omega

theorem sizeS_append : ∀ (xs ys : List (List Nat)), sizeS (xs ++ ys) = sizeS xs + sizeS ys
  | [], ys => by simp [sizeS]
  | x :: xs, ys => by rw [List.cons_append, sizeS, sizeS, sizeS_append]; omega

theorem totalS_append : ∀ (xs ys : List (List Nat)), totalS (xs ++ ys) = totalS xs + totalS ys
  | [], ys => by simp [totalS]
  | x :: xs, ys => by rw [List.cons_append, totalS, totalS, totalS_append]; omega

theorem totalS_take (xs : List (List Nat)) (k : Nat) : totalS (xs.take k) ≤ totalS xs := by
  conv => rhs; rw [← List.take_append_drop k xs, totalS_append]
  omega

theorem sizeS_take (xs : List (List Nat)) (k : Nat) : sizeS (xs.take k) ≤ sizeS xs := by
  conv => rhs; rw [← List.take_append_drop k xs, sizeS_append]
  omega

theorem sizeS_step (xs : List (List Nat)) (k : Nat) (h : k < xs.length) : sizeS (xs.take (k + 1)) = sizeS (xs.take k) + (1 + lenS xs[k].length + xs[k].length) := by
  rw [List.take_succ_eq_append_getElem h, sizeS_append]
  rfl

theorem totalS_step (xs : List (List Nat)) (k : Nat) (h : k < xs.length) : totalS (xs.take (k + 1)) = totalS (xs.take k) + xs[k].length := by
  rw [List.take_succ_eq_append_getElem h, totalS_append]
  rfl

theorem packS_snoc : ∀ (ids : List Nat) (xs : List (List Nat)) (id : Nat) (x : List Nat), ids.length = xs.length → packS (ids ++ [id]) (xs ++ [x]) = packS ids xs ++ encS id x
  | [], [], id, x, _ => by simp [packS]
  | i :: ids, y :: xs, id, x, h => by
    rw [List.cons_append, List.cons_append, packS, packS, packS_snoc ids xs id x (by simpa using h), List.append_assoc]
  | [], _ :: _, _, _, h => by simp at h
  | _ :: _, [], _, _, h => by simp at h

theorem packS_step (ids : List Nat) (xs : List (List Nat)) (k : Nat) (h : k < xs.length) (h' : k < ids.length) : packS (ids.take (k + 1)) (xs.take (k + 1)) = packS (ids.take k) (xs.take k) ++ encS ids[k] xs[k] := by
  rw [List.take_succ_eq_append_getElem h, List.take_succ_eq_append_getElem h']
  exact packS_snoc _ _ _ _ (by rw [List.length_take, List.length_take]; omega)

theorem encS_byt {id : Nat} {x : List Nat} (hi : id < 256) (hx : ∀ c ∈ x, c < 256) (hl : x.length < 18446744073709551616) : ∀ c ∈ encS id x, c < 256 := by
  intro c hc
  unfold encS at hc
  rcases List.mem_cons.1 hc with rfl | hc
  · exact hi
  · rcases List.mem_append.1 hc with hc | hc
    · exact putS_byt _ (by (have : (18446744073709551616 : Nat) < 128 ^ 10 := by decide); omega) c hc
    · exact hx c hc

theorem packS_byt : ∀ (ids : List Nat) (xs : List (List Nat)), (∀ c ∈ ids, c < 256) → (∀ x ∈ xs, ∀ c ∈ x, c < 256) → (∀ x ∈ xs, x.length < 18446744073709551616) → ∀ c ∈ packS ids xs, c < 256
  | [], [], _, _, _ => by simp [packS]
  | [], _ :: _, _, _, _ => by simp [packS]
  | _ :: _, [], _, _, _ => by simp [packS]
  | id :: ids, x :: xs, h1, h2, h3 => by
    intro c hc
    rw [packS] at hc
    rcases List.mem_append.1 hc with hc | hc
    · exact encS_byt (h1 id (by simp)) (h2 x (by simp)) (h3 x (by simp)) c hc
    · exact packS_byt ids xs (fun c hc => h1 c (by simp [hc])) (fun x hx => h2 x (by simp [hx])) (fun x hx => h3 x (by simp [hx])) c hc

/-- A section's encoding, whatever follows, is read. -/
theorem oneS_enc (id : Nat) (x r : List Nat) (h : x.length < 18446744073709551616) : oneS id (encS id x ++ r) = (0, 1 + lenS x.length, x.length) := by
  unfold encS
  rw [List.cons_append, oneS, List.append_assoc, getS_putS _ _ h]
  rw [if_neg (by simp), if_neg (by simp), if_neg (by simp only [List.length_append]; omega)]
  rfl

theorem encS_drop (id : Nat) (x r : List Nat) : (encS id x ++ r).drop (1 + lenS x.length) = x ++ r := by
  unfold encS lenS
  rw [List.cons_append, Nat.add_comm 1, List.drop_succ_cons, List.append_assoc, List.drop_left]

theorem encS_drop2 (id : Nat) (x r : List Nat) : (encS id x ++ r).drop (1 + lenS x.length + x.length) = r := by
  rw [← List.drop_drop, encS_drop, List.drop_left]

theorem splitF_pack : ∀ (ids : List Nat) (xs : List (List Nat)) (r : List Nat), ids.length = xs.length → (∀ x ∈ xs, x.length < 18446744073709551616) → splitF ids (packS ids xs ++ r) = (0, xs, r)
  | [], [], r, _, _ => rfl
  | id :: ids, x :: xs, r, h, hx => by
    have ho := oneS_enc id x (packS ids xs ++ r) (hx x (by simp))
    rw [packS, List.append_assoc, splitF, ho, if_neg (by simp), encS_drop, encS_drop2, List.take_left, splitF_pack ids xs r (by simpa using h) fun y hy => hx y (by simp [hy])]
  | [], _ :: _, _, h, _ => by simp at h
  | _ :: _, [], _, h, _ => by simp at h

theorem split_pack (ids : List Nat) (xs : List (List Nat)) (h : ids.length = xs.length) (hx : ∀ x ∈ xs, x.length < 18446744073709551616) : splitF ids (packS ids xs) = (0, xs, []) := by
  have := splitF_pack ids xs [] h hx
  rwa [List.append_nil] at this

theorem splitE_pack (ids : List Nat) (xs : List (List Nat)) (h : ids.length = xs.length) (hx : ∀ x ∈ xs, x.length < 18446744073709551616) : splitE ids (packS ids xs) = 0 := by
  unfold splitE
  rw [split_pack ids xs h hx]
  rfl

theorem splitE_long (ids : List Nat) (xs : List (List Nat)) (y : Nat) (h : ids.length = xs.length) (hx : ∀ x ∈ xs, x.length < 18446744073709551616) : splitE ids (packS ids xs ++ [y]) = 2 := by
  unfold splitE
  rw [splitF_pack ids xs [y] h hx]
  simp

/-- What is read is the encoding of what it is read as. -/
theorem oneS_canon {id : Nat} {l : List Nat} (hb : ∀ c ∈ l, c < 256) {h v : Nat} (he : oneS id l = (0, h, v)) : encS id ((l.drop h).take v) = l.take (h + v) ∧ h + v ≤ l.length ∧ ((l.drop h).take v).length = v := by
  cases l with
  | nil => simp [oneS] at he
  | cons x t =>
    rw [oneS] at he
    by_cases h1 : x = id
    case neg => rw [if_pos h1] at he; simp at he
    rw [if_neg (by simpa using h1)] at he
    by_cases h2 : (getS t).2.2 = 0
    case neg => rw [if_pos h2] at he; exact absurd (congrArg Prod.fst he) h2
    rw [if_neg (by simpa using h2)] at he
    by_cases h3 : t.length < (getS t).2.1 + (getS t).1
    · rw [if_pos h3] at he; simp at he
    rw [if_neg h3] at he
    injection he with _ he
    injection he with e1 e2
    obtain ⟨n1, n2, n3⟩ := getS_canon (l := t) (fun c hc => hb c (by simp [hc])) (x := (getS t).1) (n := (getS t).2.1) (by rw [← h2])
    rw [e2] at n3 h3
    generalize (getS t).2.1 = n at *
    subst h1
    subst e1
    have hl : ((t.drop n).take v).length = v := by rw [List.length_take, List.length_drop]; omega
    have hd : (x :: t).drop (1 + n) = t.drop n := by rw [Nat.add_comm, List.drop_succ_cons]
    rw [hd]
    refine ⟨?_, by rw [List.length_cons]; omega, hl⟩
    unfold encS
    rw [hl, n3, show 1 + n + v = (n + v) + 1 by omega, List.take_succ_cons, ← List.take_add]

theorem splitF_canon : ∀ (ids l : List Nat), (∀ c ∈ l, c < 256) → (splitF ids l).1 = 0 → packS ids (splitF ids l).2.1 ++ (splitF ids l).2.2 = l ∧ (splitF ids l).2.1.length = ids.length
  | [], l, _, _ => ⟨by simp [splitF, packS], rfl⟩
  | id :: ids, l, hb, h => by
    rw [splitF] at h ⊢
    by_cases h1 : (oneS id l).1 = 0
    case neg => rw [if_pos h1] at h; exact absurd h h1
    rw [if_neg (by simpa using h1)] at h ⊢
    obtain ⟨c1, c2, c3⟩ := oneS_canon (id := id) hb (h := (oneS id l).2.1) (v := (oneS id l).2.2) (by rw [← h1])
    obtain ⟨r1, r2⟩ := splitF_canon ids (l.drop ((oneS id l).2.1 + (oneS id l).2.2)) (fun c hc => hb c (List.mem_of_mem_drop hc)) h
    refine ⟨?_, by simp [r2]⟩
    show packS (id :: ids) (_ :: _) ++ _ = l
    rw [packS, List.append_assoc]
    show _ ++ (packS ids _ ++ _) = l
    rw [r1, c1, List.take_append_drop]

theorem splitE_zero {ids l : List Nat} (h : splitE ids l = 0) : (splitF ids l).1 = 0 ∧ (splitF ids l).2.2 = [] := by
  unfold splitE at h
  by_cases h1 : (splitF ids l).1 = 0
  case neg => rw [if_pos h1] at h; exact absurd h h1
  rw [if_neg (by simpa using h1)] at h
  refine ⟨h1, ?_⟩
  by_cases h2 : (splitF ids l).2.2 = []
  · exact h2
  · rw [if_neg h2] at h; cases h

theorem split_canon {ids l : List Nat} (hb : ∀ c ∈ l, c < 256) (h : splitE ids l = 0) : packS ids (splitF ids l).2.1 = l ∧ (splitF ids l).2.1.length = ids.length := by
  obtain ⟨h1, h2⟩ := splitE_zero h
  obtain ⟨h3, h4⟩ := splitF_canon ids l hb h1
  rw [h2, List.append_nil] at h3
  exact ⟨h3, h4⟩

theorem oneS_cut (id : Nat) (x : List Nat) (k : Nat) (hk : k < (encS id x).length) (h : x.length < 18446744073709551616) : oneS id ((encS id x).take k) = (1, 0, 0) := by
  rw [encS_length] at hk
  cases k with
  | zero => rfl
  | succ j =>
    unfold encS
    rw [List.take_succ_cons, oneS, if_neg (by simp)]
    by_cases hj : j < lenS x.length
    · rw [List.take_append_of_le_length (by unfold lenS at hj; omega), getS_prefix _ _ hj, if_pos (by simp)]
    · obtain ⟨q, rfl⟩ : ∃ q, j = lenS x.length + q := ⟨j - lenS x.length, by omega⟩
      have : (putS x.length ++ x).take (lenS x.length + q) = putS x.length ++ x.take q := by
        unfold lenS
        rw [List.take_append, List.take_of_length_le (by omega)]
        simp
      rw [this, getS_putS _ _ h, if_neg (by simp), if_pos (by simp only [List.length_append, List.length_take]; omega)]

theorem splitF_cut : ∀ (ids : List Nat) (xs : List (List Nat)) (k : Nat), ids.length = xs.length → (∀ x ∈ xs, x.length < 18446744073709551616) → k < (packS ids xs).length → (splitF ids ((packS ids xs).take k)).1 = 1
  | [], [], k, _, _, hk => by simp [packS] at hk
  | id :: ids, x :: xs, k, h, hx, hk => by
    rw [packS] at hk ⊢
    rw [splitF]
    have hxl := hx x (by simp)
    by_cases h1 : k < (encS id x).length
    · rw [List.take_append_of_le_length (by omega), oneS_cut id x k h1 hxl, if_pos (by simp)]
    · obtain ⟨q, rfl⟩ : ∃ q, k = (encS id x).length + q := ⟨k - (encS id x).length, by omega⟩
      have e : (encS id x ++ packS ids xs).take ((encS id x).length + q) = encS id x ++ (packS ids xs).take q := by
        rw [List.take_append, List.take_of_length_le (by omega)]
        simp
      rw [e, oneS_enc id x _ hxl, if_neg (by simp), encS_drop2]
      rw [List.length_append] at hk
      exact splitF_cut ids xs q (by simpa using h) (fun y hy => hx y (by simp [hy])) (by omega)
  | [], _ :: _, _, h, _, _ => by simp at h
  | _ :: _, [], _, h, _, _ => by simp at h

theorem splitE_cut (ids : List Nat) (xs : List (List Nat)) (k : Nat) (h : ids.length = xs.length) (hx : ∀ x ∈ xs, x.length < 18446744073709551616) (hk : k < (packS ids xs).length) : splitE ids ((packS ids xs).take k) = 1 := by
  unfold splitE
  rw [splitF_cut ids xs k h hx hk]
  rfl

theorem splitF_other : ∀ (ids : List Nat) (xs : List (List Nat)) (i y : Nat) (hi : i < ids.length), ids.length = xs.length → (∀ x ∈ xs, x.length < 18446744073709551616) → ids[i] ≠ y → (splitF (ids.set i y) (packS ids xs)).1 = 7
  | id :: ids, x :: xs, 0, y, _, h, hx, hy => by
    rw [List.set_cons_zero, splitF]
    have : oneS y (packS (id :: ids) (x :: xs)) = (7, 0, 0) := by
      rw [packS, encS, List.cons_append, oneS, if_pos (by simpa using hy)]
    rw [this, if_pos (by simp)]
  | id :: ids, x :: xs, i + 1, y, hi, h, hx, hy => by
    rw [List.set_cons_succ, splitF, packS, oneS_enc id x _ (hx x (by simp)), if_neg (by simp), encS_drop2]
    exact splitF_other ids xs i y (by simpa using hi) (by simpa using h) (fun y hy => hx y (by simp [hy])) (by simpa using hy)
  | [], _, i, _, hi, _, _, _ => by simp at hi
  | _ :: _, [], _, _, _, h, _, _ => by simp at h

theorem splitE_other (ids : List Nat) (xs : List (List Nat)) (i y : Nat) (hi : i < ids.length) (h : ids.length = xs.length) (hx : ∀ x ∈ xs, x.length < 18446744073709551616) (hy : ids[i] ≠ y) : splitE (ids.set i y) (packS ids xs) = 7 := by
  unfold splitE
  rw [splitF_other ids xs i y hi h hx hy]
  rfl

/-- Part of the way: k identifiers are read, the contents are xs, and a bytes are behind. -/
def SplitAt (ids l : List Nat) (k a : Nat) (xs : List (List Nat)) : Prop :=
  splitF ids l = ((splitF (ids.drop k) (l.drop a)).1, xs ++ (splitF (ids.drop k) (l.drop a)).2.1, (splitF (ids.drop k) (l.drop a)).2.2)

section
variable {ids l : List Nat} {k a : Nat} {xs : List (List Nat)}

theorem SplitAt.zero (ids l : List Nat) : SplitAt ids l 0 0 [] := by simp [SplitAt]

theorem SplitAt.bad (h : SplitAt ids l k a xs) (hk : k < ids.length) {e : Nat} (he : (oneS ids[k] (l.drop a)).1 = e) (h0 : e ≠ 0) : splitE ids l = e := by
  subst he
  have : (splitF ids l).1 = (oneS ids[k] (l.drop a)).1 := by
    rw [h, List.drop_eq_getElem_cons hk, splitF, if_pos h0]
  unfold splitE
  rw [this, if_pos h0]

theorem SplitAt.step (h : SplitAt ids l k a xs) (hk : k < ids.length) {hd v : Nat} (he : oneS ids[k] (l.drop a) = (0, hd, v)) : SplitAt ids l (k + 1) (a + hd + v) (xs ++ [(l.drop (a + hd)).take v]) := by
  unfold SplitAt at *
  rw [h, List.drop_eq_getElem_cons hk, splitF, he, if_neg (by simp)]
  simp only [List.drop_drop, List.append_assoc, List.singleton_append, Nat.add_assoc]

theorem SplitAt.last (h : SplitAt ids l k a xs) (hk : ids.length ≤ k) : splitF ids l = (0, xs, l.drop a) := by
  rw [h, List.drop_eq_nil_of_le hk, splitF, List.append_nil]

theorem SplitAt.fit (h : SplitAt ids l k a xs) (hk : ids.length ≤ k) (ha : l.length ≤ a) : splitE ids l = 0 ∧ (splitF ids l).2.1 = xs := by
  have := h.last hk
  unfold splitE
  rw [this, List.drop_eq_nil_of_le ha]
  simp

theorem SplitAt.long (h : SplitAt ids l k a xs) (hk : ids.length ≤ k) (ha : a < l.length) : splitE ids l = 2 := by
  have := h.last hk
  unfold splitE
  rw [this, if_neg (by simp), if_neg]
  intro e
  have := congrArg List.length e
  rw [List.length_drop, List.length_nil] at this
  omega

end

end Go.Proofs.Ytkapmfopfddmbaa

/-
  Words for memory: values that show lists of bytes, a slice of byte slices that is seen, and one that a call owns.
-/
namespace Go.Proofs.Ytkapmfopfddmbaa
open Go.RowKit
set_option linter.unusedVariables false

/-- The values vs are byte slices below block B that show the lists xs. -/
def Cells (w : World) (B : Nat) (vs : List Value) (xs : List (List Nat)) : Prop :=
  vs.length = xs.length ∧ ∀ (i : Nat) (x : List Nat), xs[i]? = some x → ∃ A c, vs[i]? = some (Value.slice A x.length c) ∧ x.length ≤ c ∧ c ≤ maxLen ∧ Sees w B A (bts x)

/-- The slice address A shows byte slices that show the lists xs, all below block B. -/
def SeesL (w : World) (B : Nat) (A : Option Addr) (xs : List (List Nat)) : Prop := ∃ vs, Sees w B A vs ∧ Cells w B vs xs

section
variable {w w' : World} {B B' : Nat} {A : Option Addr} {vs : List Value} {xs : List (List Nat)}

theorem Cells.nil (w : World) (B : Nat) : Cells w B [] [] := ⟨rfl, fun i x h => by simp at h⟩

theorem Cells.keep (h : Cells w B vs xs) (hk : ∀ p : Addr, p.block < B → w'.cell? p = w.cell? p) : Cells w' B vs xs :=
  ⟨h.1, fun i x hx => by
    obtain ⟨A, c, h1, h2, h3, h4⟩ := h.2 i x hx
    exact ⟨A, c, h1, h2, h3, h4.keep hk⟩⟩

theorem Cells.more (h : Cells w B vs xs) (hB : B ≤ B') : Cells w B' vs xs :=
  ⟨h.1, fun i x hx => by
    obtain ⟨A, c, h1, h2, h3, h4⟩ := h.2 i x hx
    exact ⟨A, c, h1, h2, h3, h4.more hB⟩⟩

theorem Cells.below (h : Cells w B vs xs) (hb : Below B w w') : Cells w' B vs xs := h.keep fun _ hp => hb.cell hp

theorem Cells.drewN (h : Cells w B vs xs) (n : Nat) : Cells (w.drewN n) B vs xs := h.keep fun _ _ => rfl

theorem Cells.snoc (h : Cells w B vs xs) {A : Option Addr} {x : List Nat} {c : Nat} (hc : x.length ≤ c) (hm : c ≤ maxLen) (hs : Sees w B A (bts x)) : Cells w B (vs ++ [Value.slice A x.length c]) (xs ++ [x]) := by
  refine ⟨by simp [h.1], fun i y hy => ?_⟩
  rcases Nat.lt_trichotomy i xs.length with hi | hi | hi
  · rw [List.getElem?_append_left hi] at hy
    obtain ⟨A, c, h1, h2⟩ := h.2 i y hy
    exact ⟨A, c, by rw [List.getElem?_append_left (by rw [h.1]; exact hi)]; exact h1, h2⟩
  · subst hi
    rw [List.getElem?_append_right (Nat.le_refl _), Nat.sub_self] at hy
    injection hy with hy
    subst hy
    exact ⟨A, c, by rw [List.getElem?_append_right (by rw [h.1]; exact Nat.le_refl _), h.1, Nat.sub_self]; rfl, hc, hm, hs⟩
  · rw [List.getElem?_eq_none (by simp; omega)] at hy
    cases hy

theorem Cells.one (h : Cells w B vs xs) : ∀ u ∈ vs, u.oneCell' = true := by
  intro u hu
  obtain ⟨i, hi, rfl⟩ := List.getElem_of_mem hu
  have hi' : i < xs.length := by rw [← h.1]; exact hi
  obtain ⟨A, c, h1, _⟩ := h.2 i xs[i] (List.getElem?_eq_getElem hi')
  rw [List.getElem?_eq_getElem hi] at h1
  injection h1 with h1
  rw [h1]
  rfl

theorem SeesL.keep (h : SeesL w B A xs) (hk : ∀ p : Addr, p.block < B → w'.cell? p = w.cell? p) : SeesL w' B A xs := by
  obtain ⟨vs, h1, h2⟩ := h
  exact ⟨vs, h1.keep hk, h2.keep hk⟩

theorem SeesL.more (h : SeesL w B A xs) (hB : B ≤ B') : SeesL w B' A xs := by
  obtain ⟨vs, h1, h2⟩ := h
  exact ⟨vs, h1.more hB, h2.more hB⟩

theorem SeesL.below (h : SeesL w B A xs) (hb : Below B w w') : SeesL w' B A xs := h.keep fun _ hp => hb.cell hp

theorem SeesL.drewN (h : SeesL w B A xs) (n : Nat) : SeesL (w.drewN n) B A xs := h.keep fun _ _ => rfl

theorem SeesL.alloc (h : SeesL w B A xs) (hB : B ≤ w.heap.size) (o : Obj) : SeesL (w.alloc o) B A xs := h.keep fun p hp => World.cell?_alloc_lt w o p (by omega)

theorem SeesL.nil : SeesL w B A [] := ⟨[], Sees.nil, Cells.nil w B⟩

theorem SeesL.at_ (h : SeesL w B A xs) {i : Nat} (hi : i < xs.length) :
    ∃ b o Ai ci, A = some ⟨b, o, none⟩ ∧ b < B ∧ w.cell? ⟨b, o + i, none⟩ = some (.slice Ai xs[i].length ci) ∧ xs[i].length ≤ ci ∧ ci ≤ maxLen ∧ Sees w B Ai (bts xs[i]) := by
  obtain ⟨vs, h1, h2, h3⟩ := h
  obtain ⟨Ai, ci, h4, h5, h6, h7⟩ := h3 i xs[i] (List.getElem?_eq_getElem hi)
  obtain ⟨b, o, hA, hb, hc⟩ := h1 (by intro e; subst e; simp at h4)
  exact ⟨b, o, Ai, ci, hA, hb, hc i _ h4, h5, h6, h7⟩

end

theorem infoSl : (Try.prog.info? 22).map (fun i => (i.zero, i.size, i.bytes)) = some (some (.slice none 0 0), 1, 24) := by kernel_rfl

/-- A byte slice, seen at length n. -/
theorem Sees.len {w : World} {B : Nat} {A : Option Addr} {l : List Nat} (h : Sees w B A (bts l)) (h0 : A = none) : l = [] := by
  rcases l with _ | ⟨x, r⟩
  · rfl
  · obtain ⟨b, o, e, _⟩ := h (by simp [bts])
    rw [h0] at e
    cases e

end Go.Proofs.Ytkapmfopfddmbaa

/-
  Pack; the reference's One and Pack.
-/
namespace Go.Proofs.Ytkapmfopfddmbaa
open Go.RowKit
set_option linter.unusedVariables false

/-- What Pack returns: the packed form, in memory of its own. -/
def PackP (w : World) (l : List Nat) (e : Ending) (w' : World) : Prop :=
  ∃ A' c', e = .returned (.tuple #[.slice A' l.length c', .int .i64 0]) ∧ w'.ownsRow w.heap.size 5 1 (.slice A' l.length c') l.length (bts l) ∧ Below w.heap.size w w'

theorem sizeS_take_len (ids : List Nat) (xs : List (List Nat)) (k : Nat) (h : ids.length = xs.length) : (packS (ids.take k) (xs.take k)).length ≤ sizeS xs := by
  rw [packS_size _ _ (by rw [List.length_take, List.length_take, h])]
  exact sizeS_take xs k

theorem own_news {w : World} {base n g c : Nat} {e : TypeId} {xs : List Value} (h : w.ownsRow base e 1 (.slice (some ⟨g, 0, none⟩) n c) n xs) : ∀ j u, xs[j]? = some u → w.cell? ((⟨g, 0, none⟩ : Addr).add j) = some u := fun j u hu => h.cells (g := g) rfl j u hu

end Go.Proofs.Ytkapmfopfddmbaa
