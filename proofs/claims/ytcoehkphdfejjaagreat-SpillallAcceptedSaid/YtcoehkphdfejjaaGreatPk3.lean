import Derived.Test.YtcoehkphdfejjaaGreatPk1
import Derived.Deep.RegionHeld3
import Derived.Shelf.SlSortCmp.QuietGrown
import Derived.Lib.Small
import Derived.Deep.Cut
import Derived.Deep.CutRange
import Derived.Deep.DeepMust
import Derived.Laws.StructEq
import Derived.Laws.MakeOwn

/-
  Steps that draw and lay blocks, and turn nothing.
-/
namespace Go.Proofs.YtcoehkphdfejjaaGreat
open Go.RowKit
set_option linter.unusedVariables false

/-- A step that draws and lays blocks, and turns nothing. -/
def Grew (w w' : World) : Prop := ∃ n os, w' = Go.Sort.grow (w.drewN n) os

theorem Grew.refl (w : World) : Grew w w := ⟨0, #[], by rw [Go.Sort.grow_empty]; rfl⟩

theorem Grew.drewN {w w' : World} (h : Grew w w') (k : Nat) : Grew w (w'.drewN k) := by
  obtain ⟨n, os, rfl⟩ := h
  exact ⟨n + k, os, by rw [← World.drewN_drewN]; rfl⟩

theorem Grew.drew {w w' : World} (h : Grew w w') : Grew w w'.drew := h.drewN 1

theorem Grew.alloc {w w' : World} (h : Grew w w') (o : Obj) : Grew w (w'.alloc o) := by
  obtain ⟨n, os, rfl⟩ := h
  exact ⟨n, os ++ #[o], by rw [Go.Sort.alloc_eq_grow, Go.Sort.grow_grow]⟩

theorem Grew.trans {w w' w'' : World} (h : Grew w w') (k : Grew w' w'') : Grew w w'' := by
  obtain ⟨n, os, rfl⟩ := h
  obtain ⟨m, ot, rfl⟩ := k
  exact ⟨n + m, os ++ ot, by
    rw [← Go.Sort.grow_grow, ← World.drewN_drewN]
    rfl⟩

theorem Grew.below {w w' : World} (h : Grew w w') : Below w.heap.size w w' := by
  obtain ⟨n, os, rfl⟩ := h
  exact ⟨rfl, rfl, rfl, by simp [Go.Sort.grow, World.drewN], fun k hk => by simp [Go.Sort.grow, World.drewN, Array.getElem?_append, hk]⟩

theorem Grew.cell {w w' : World} (h : Grew w w') {p : Addr} {v : Value} (hc : w.cell? p = some v) : w'.cell? p = some v := by
  obtain ⟨n, os, rfl⟩ := h
  exact Go.cell_grown (World.block_lt_of_cell? w _ hc) hc n os

theorem Grew.row {w w' : World} (h : Grew w w') {p : Nat} {T : TypeId} {cs : Array Value} (hr : Row w p T cs) : Row w' p T cs := hr.below h.below hr.lt

theorem Grew.frozen {w w' : World} (h : Grew w w') {p : Nat} {T : TypeId} {cs : Array Value} (hr : Row w p T cs) (i : Nat) : w'.frozen? ⟨p, i, none⟩ = false := (h.row hr).frozen i

end Go.Proofs.YtcoehkphdfejjaaGreat

/-
  Lists of records of s cells each that a call owns.
-/
namespace Go.Proofs.YtcoehkphdfejjaaGreat
open Go.RowKit
set_option linter.unusedVariables false

/-- The value v is a list of records in memory of its own, new to the world w; of what was there nothing has turned. -/
structure RL {α : Type} (f : α → List Value) (s : Nat) (T : TypeId) (w : World) (v : Value) (l : List α) (wr : World) : Prop where
  own : wr.ownsRow w.heap.size T s v l.length (l.flatMap f)
  blw : Below w.heap.size w wr

theorem flatS_len {α : Type} {f : α → List Value} {s : Nat} (hs : ∀ x, (f x).length = s) : ∀ l : List α, (l.flatMap f).length = l.length * s
  | [] => by simp
  | x :: r => by rw [List.flatMap_cons, List.length_append, hs, flatS_len hs r, List.length_cons, Nat.succ_mul, Nat.add_comm]

theorem flat_one {α : Type} {f : α → List Value} (h : ∀ x, ∀ u ∈ f x, u.oneCell' = true) (l : List α) : ∀ u ∈ l.flatMap f, u.oneCell' = true := fun u hu => by
  obtain ⟨x, _, hx⟩ := List.mem_flatMap.1 hu
  exact h x u hx

theorem flat_put {α : Type} {f : α → List Value} {s : Nat} (hs : ∀ x, (f x).length = s) {y : α} {j : Nat} {u : Value} (hj : j < s) : ∀ (l : List α) (k : Nat) (hk : k < l.length), f y = (f l[k]).set j u → (l.set k y).flatMap f = (l.flatMap f).set (k * s + j) u
  | x :: r, 0, hk, e => by
    simp only [List.getElem_cons_zero] at e
    rw [List.set_cons_zero, List.flatMap_cons, List.flatMap_cons, e, Nat.zero_mul, Nat.zero_add, List.set_append_left _ _ (by rw [hs]; exact hj)]
  | x :: r, k + 1, hk, e => by
    simp only [List.getElem_cons_succ] at e
    rw [List.set_cons_succ, List.flatMap_cons, List.flatMap_cons, flat_put hs hj r k (by simpa using hk) e, List.set_append_right _ _ (by rw [hs, Nat.succ_mul]; omega), hs, Nat.succ_mul, show k * s + s + j - s = k * s + j by omega]

section
variable {α : Type} {f : α → List Value} {s : Nat} {T : TypeId} {w wr w' : World} {v v' : Value} {l r : List α} {A : Option Addr} {n m c : Nat}

theorem RL.nil (w : World) : RL f s T w (.slice none 0 0) [] w := ⟨⟨by simp, .inl ⟨rfl, rfl⟩⟩, Below.refl _ _⟩

theorem RL.next (h : RL f s T w v l wr) (hb : Below wr.heap.size wr w') : RL f s T w v l w' :=
  ⟨(Mods.of_below (S := No) hb).ownS h.own fun _ _ hs => hs.elim, h.blw.trans (hb.mono h.blw.size)⟩

theorem RL.grew (h : RL f s T w v l wr) (hb : Grew wr w') : RL f s T w v l w' := h.next hb.below

theorem RL.alloc (h : RL f s T w v l wr) (o : Obj) : RL f s T w v l (wr.alloc o) := h.next ((Below.refl _ _).alloc (Nat.le_refl _) o)

theorem RL.base {w0 : World} (h : RL f s T w v l wr) (hb : Below w0.heap.size w0 w) : RL f s T w0 v l wr := ⟨ownS_base h.own hb.size, hb.trans (h.blw.mono hb.size)⟩

theorem RL.slice (h : RL f s T w v l wr) : ∃ A c, v = .slice A l.length c ∧ l.length ≤ c ∧ c ≤ maxLen := ownS_slice h.own

theorem RL.sliceN (h : RL f s T w v l wr) (hn : l.length = n) : ∃ A c, v = .slice A n c ∧ n ≤ c ∧ c ≤ maxLen := by
  subst hn
  exact h.slice

theorem RL.sees (h : RL f s T w (.slice A n c) l wr) : Sees wr wr.heap.size A (l.flatMap f) := by
  obtain ⟨A', c', e, _⟩ := h.slice
  injection e with e1 e2 e3
  subst e2
  exact sees_own h.own

theorem RL.some_ (h : RL f s T w (.slice A n c) l wr) (hn : 0 < n) : ∃ g, A = some ⟨g, 0, none⟩ := by
  rcases h.own.2 with ⟨e, _⟩ | ⟨g', cap, cur, hv, _⟩
  · injection e with _ e2 _
    omega
  · injection hv with e1 _ _
    exact ⟨g', e1⟩

theorem RL.join (h : RL f s T w v l wr) (hn : l.length = n) (hm : r.length = m)
    (ho : w'.ownsRow w.heap.size T s v' (n + m) (l.flatMap f ++ r.flatMap f)) (hg : wr.grownBy w' v.ownBlock) : RL f s T w v' (l ++ r) w' := by
  subst hn hm
  exact ⟨by rw [List.flatMap_append, List.length_append]; exact ho, h.blw.grown hg h.blw.size fun k hk => (ownS_lt h.own k hk).1⟩

theorem RL.push (h : RL f s T w v l wr) (y : α) (hn : l.length = n) {o : Obj}
    (ho : w'.ownsRow w.heap.size T s v' (n + 1) (l.flatMap f ++ f y)) (hg : (wr.alloc o).grownBy w' v.ownBlock) : RL f s T w v' (l ++ [y]) w' :=
  (h.alloc o).join hn rfl (by simpa using ho) hg

theorem RL.snoc (h : RL f s T w v l wr) (y : α) (hn : l.length = n)
    (ho : w'.ownsRow w.heap.size T s v' (n + 1) (l.flatMap f ++ f y)) (hg : wr.grownBy w' v.ownBlock) : RL f s T w v' (l ++ [y]) w' :=
  h.join hn rfl (by simpa using ho) hg

/-- A store into a list of one's own. -/
theorem RL.put {g k j : Nat} {y : α} {u : Value} (h : RL f s T w (.slice (some ⟨g, 0, none⟩) n c) l wr) (hs : ∀ x, (f x).length = s) (hk : k < l.length) (hj : j < s) (e : f y = (f l[k]).set j u) :
    RL f s T w (.slice (some ⟨g, 0, none⟩) n c) (l.set k y) (wr.setCell ⟨g, k * s + j, none⟩ u) := by
  have hlt : k * s + j < (l.flatMap f).length := by
    rw [flatS_len hs]
    have := Nat.mul_le_mul_right s (Nat.succ_le_of_lt hk)
    rw [Nat.succ_mul] at this
    omega
  have h1 := ownS_put h.own (g := g) rfl hlt u
  refine ⟨by rw [List.length_set, flat_put hs hj l k hk e]; exact h1, h.blw.setCell (p := ⟨g, k * s + j, none⟩) (ownS_lt h.own g rfl).1 _⟩

theorem RL.frozen {g k : Nat} (h : RL f s T w (.slice (some ⟨g, 0, none⟩) n c) l wr) : wr.frozen? ⟨g, k, none⟩ = false := by
  rcases h.own.2 with ⟨hv, _⟩ | ⟨g', cap, cur, hv, _, hh, _⟩
  · cases hv
  · injection hv with e _ _
    injection e with e
    injection e with e _ _
    subst e
    exact Row.frozen (T := T) (cs := cur) hh k

/-- A list that is new and empty. -/
theorem RL.empty (w : World) : RL f s T w (.slice (some ⟨w.heap.size, 0, none⟩) 0 0) [] (w.alloc (.cells #[] T)) := ⟨own_empty w T s, (Below.refl _ _).alloc (Nat.le_refl _) _⟩

end

end Go.Proofs.YtcoehkphdfejjaaGreat

/-
  Pairs, their order, and pair sets as lists: the mathematics of layer 11.
-/
namespace Go.Proofs.YtcoehkphdfejjaaGreat
set_option linter.unusedVariables false

abbrev Pr := Int × Int

/-- Ordered before: by the register, then by the location. -/
def ltP (p q : Pr) : Bool := decide (p.1 < q.1 ∨ (p.1 = q.1 ∧ p.2 < q.2))

theorem ltP_iff {p q : Pr} : ltP p q = true ↔ p.1 < q.1 ∨ (p.1 = q.1 ∧ p.2 < q.2) := by simp [ltP]

theorem ltP_irrefl (p : Pr) : ltP p p = false := by simp [ltP]

theorem ltP_trans {p q r : Pr} (h : ltP p q = true) (k : ltP q r = true) : ltP p r = true := by
  rw [ltP_iff] at *
  omega

theorem ltP_ntrans {p q r : Pr} (h : ltP p q = false) (k : ltP q r = false) : ltP p r = false := by
  rw [← Bool.not_eq_true, ltP_iff] at *
  omega

theorem pr_eq {p q : Pr} (h1 : p.1 = q.1) (h2 : p.2 = q.2) : p = q := Prod.ext h1 h2

theorem ltP_total {p q : Pr} (h : ltP p q = false) (k : ltP q p = false) : p = q := by
  rw [← Bool.not_eq_true, ltP_iff] at *
  exact pr_eq (by omega) (by omega)

theorem ltP_asymm {p q : Pr} (h : ltP p q = true) : ltP q p = false := by
  rw [← Bool.not_eq_true]
  intro k
  have := ltP_trans h k
  rw [ltP_irrefl] at this
  cases this

theorem ltP_ne {p q : Pr} (h : ltP p q = true) : p ≠ q := by
  intro e
  subst e
  rw [ltP_irrefl] at h
  cases h

theorem ltP_of_le {p q : Pr} (h : ltP q p = false) (k : p ≠ q) : ltP p q = true := by
  rcases Bool.eq_false_or_eq_true (ltP p q) with e | e
  · exact e
  · exact absurd (ltP_total e h) k

theorem ltP_lt_le {p q r : Pr} (h : ltP p q = true) (k : ltP r q = false) : ltP p r = true := by
  rw [← Bool.not_eq_true, ltP_iff] at k
  rw [ltP_iff] at *
  omega

theorem ltP_le_lt {p q r : Pr} (h : ltP q p = false) (k : ltP q r = true) : ltP p r = true := by
  rw [← Bool.not_eq_true, ltP_iff] at h
  rw [ltP_iff] at *
  omega

/-- A pair set: strictly ascending. -/
def Srt (l : List Pr) : Prop := l.Pairwise fun a b => ltP a b = true

theorem Srt.nil : Srt [] := List.Pairwise.nil

theorem Srt.tail {x : Pr} {l : List Pr} (h : Srt (x :: l)) : Srt l := (List.pairwise_cons.1 h).2

theorem Srt.snoc {l : List Pr} {x : Pr} (h : Srt l) (hx : ∀ y ∈ l, ltP y x = true) : Srt (l ++ [x]) := by
  unfold Srt
  rw [List.pairwise_append]
  exact ⟨h, List.pairwise_singleton _ _, fun a ha b hb => by simp at hb; subst hb; exact hx a ha⟩

theorem Srt.lt {l : List Pr} (h : Srt l) {i j : Nat} (hij : i < j) (hj : j < l.length) : ltP (l[i]'(by omega)) l[j] = true := List.pairwise_iff_getElem.1 h i j (by omega) hj hij

theorem Srt.drop {l : List Pr} (h : Srt l) (k : Nat) : Srt (l.drop k) := List.Pairwise.sublist (List.drop_sublist k l) h

theorem Srt.take {l : List Pr} (h : Srt l) (k : Nat) : Srt (l.take k) := List.Pairwise.sublist (List.take_sublist k l) h

/-- Two pair sets with the same pairs are equal. -/
theorem srt_ext : ∀ {l r : List Pr}, Srt l → Srt r → (∀ q, q ∈ l ↔ q ∈ r) → l = r
  | [], [], _, _, _ => rfl
  | [], y :: r, _, _, h => by have := (h y).2 (by simp); simp at this
  | x :: l, [], _, _, h => by have := (h x).1 (by simp); simp at this
  | x :: l, y :: r, hl, hr, h => by
    have hx := List.pairwise_cons.1 hl
    have hy := List.pairwise_cons.1 hr
    have e : x = y := by
      rcases List.mem_cons.1 ((h x).1 (by simp)) with e | e
      · exact e
      · rcases List.mem_cons.1 ((h y).2 (by simp)) with e' | e'
        · exact e'.symm
        · have h1 := hy.1 x e
          have h2 := hx.1 y e'
          rw [ltP_asymm h1] at h2
          cases h2
    subst e
    rw [srt_ext hx.2 hy.2 fun q => ?_]
    constructor
    · intro hq
      rcases List.mem_cons.1 ((h q).1 (List.mem_cons_of_mem _ hq)) with e | e
      · subst e
        have := hx.1 q hq
        rw [ltP_irrefl] at this
        cases this
      · exact e
    · intro hq
      rcases List.mem_cons.1 ((h q).2 (List.mem_cons_of_mem _ hq)) with e | e
      · subst e
        have := hy.1 q hq
        rw [ltP_irrefl] at this
        cases this
      · exact e

/-- One round of the reference's Add: whether the pair is in, and the result so far. -/
def stA (p : Pr) (s : Bool × List Pr) (x : Pr) : Bool × List Pr :=
  let s1 := if s.1 = false ∧ ltP x p = false then (true, s.2 ++ [p]) else s
  if x = p then s1 else (s1.1, s1.2 ++ [x])

def foA (p : Pr) (l : List Pr) : Bool × List Pr := l.foldl (stA p) (false, [])

theorem foA_snoc (p : Pr) (l : List Pr) (x : Pr) : foA p (l ++ [x]) = stA p (foA p l) x := by simp [foA]

/-- What the reference's Add returns. -/
def addP (l : List Pr) (p : Pr) : List Pr := if (foA p l).1 then (foA p l).2 else (foA p l).2 ++ [p]

/-- What is known of the reference's Add after some pairs of a set. -/
structure OkA (p : Pr) (l : List Pr) (s : Bool × List Pr) : Prop where
  srt : Srt s.2
  mem : ∀ q, q ∈ s.2 ↔ q ∈ l ∨ (s.1 = true ∧ q = p)
  low : s.1 = false → ∀ q ∈ l, ltP q p = true
  hi : s.1 = true → ∃ y ∈ l, ltP y p = false
  len : s.2.length ≤ l.length + 1
  len0 : s.1 = false → s.2.length ≤ l.length

theorem Srt.init {l : List Pr} {x : Pr} (h : Srt (l ++ [x])) : Srt l ∧ ∀ y ∈ l, ltP y x = true := by
  unfold Srt at h
  rw [List.pairwise_append] at h
  exact ⟨h.1, fun y hy => h.2.2 y hy x (by simp)⟩

theorem okA_nil (p : Pr) : OkA p [] (false, []) := ⟨Srt.nil, fun q => by simp, fun _ q hq => by simp at hq, fun h => by simp at h, by simp, fun _ => by simp⟩

theorem okA_snoc {p : Pr} {r : List Pr} {s : Bool × List Pr} {x : Pr} (hl : Srt (r ++ [x])) (h : OkA p r s) : OkA p (r ++ [x]) (stA p s x) := by
  obtain ⟨hsr, hx⟩ := hl.init
  obtain ⟨h1, h2, h3, hh, h4, h5⟩ := h
  obtain ⟨d, o⟩ := s
  dsimp only at h1 h2 h3 h4 h5 hh
  unfold stA
  dsimp only
  by_cases hd : d = false ∧ ltP x p = false
  · rw [if_pos hd]
    obtain ⟨rfl, hxp⟩ := hd
    have hlow := h3 rfl
    have hmem : ∀ q, q ∈ o ↔ q ∈ r := fun q => by simpa using h2 q
    have hop : ∀ y ∈ o, ltP y p = true := fun y hy => hlow y ((hmem y).1 hy)
    have hlen := h5 rfl
    by_cases hxe : x = p
    · rw [if_pos hxe]
      subst hxe
      exact ⟨Srt.snoc h1 hop, fun q => by simp [hmem], fun h => by simp at h, fun _ => ⟨x, by simp, ltP_irrefl x⟩, by simp; omega, fun h => by simp at h⟩
    · rw [if_neg hxe]
      have hpx : ltP p x = true := ltP_of_le hxp (fun e => hxe e.symm)
      refine ⟨Srt.snoc (Srt.snoc h1 hop) ?_, fun q => ?_, fun h => by simp at h, fun _ => ⟨x, by simp, hxp⟩, by simp; omega, fun h => by simp at h⟩
      · intro y hy
        rcases List.mem_append.1 hy with hy | hy
        · exact ltP_trans (hop y hy) hpx
        · simp at hy; subst hy; exact hpx
      · simp only [List.mem_append, List.mem_singleton, hmem, true_and, or_assoc]
        constructor
        · rintro (h | h | h)
          · exact .inl h
          · exact .inr (.inr h)
          · exact .inr (.inl h)
        · rintro (h | h | h)
          · exact .inl h
          · exact .inr (.inr h)
          · exact .inr (.inl h)
  · rw [if_neg hd]
    by_cases hxe : x = p
    · rw [if_pos hxe]
      subst hxe
      have hdt : d = true := by
        cases d
        · exact absurd ⟨rfl, ltP_irrefl x⟩ hd
        · rfl
      subst hdt
      refine ⟨h1, fun q => ?_, fun h => by simp at h, fun _ => ⟨x, by simp, ltP_irrefl x⟩, by simp; omega, fun h => by simp at h⟩
      simp only [List.mem_append, List.mem_singleton, true_and, h2, or_assoc, or_self]
    · rw [if_neg hxe]
      cases d
      · have hxp : ltP x p = true := by
          rcases Bool.eq_false_or_eq_true (ltP x p) with e | e
          · exact e
          · exact absurd ⟨rfl, e⟩ hd
        have hmem : ∀ q, q ∈ o ↔ q ∈ r := fun q => by simpa using h2 q
        have hlen := h5 rfl
        refine ⟨Srt.snoc h1 fun y hy => hx y ((hmem y).1 hy), fun q => by simp [hmem], fun _ q hq => ?_, fun h => by simp at h, by simp; omega, fun _ => by simp; omega⟩
        rcases List.mem_append.1 hq with hq | hq
        · exact h3 rfl q hq
        · simp at hq; subst hq; exact hxp
      · obtain ⟨y, hy, hyp⟩ := hh rfl
        have hpx : ltP p x = true := ltP_le_lt hyp (hx y hy)
        refine ⟨Srt.snoc h1 fun z hz => ?_, fun q => ?_, fun h => by simp at h, fun _ => ⟨y, by simp [hy], hyp⟩, by simp; omega, fun h => by simp at h⟩
        · rcases (h2 z).1 hz with hz | ⟨_, rfl⟩
          · exact hx z hz
          · exact hpx
        · simp only [List.mem_append, List.mem_singleton, true_and, h2, or_assoc]
          constructor
          · rintro (h | h | h)
            · exact .inl h
            · exact .inr (.inr h)
            · exact .inr (.inl h)
          · rintro (h | h | h)
            · exact .inl h
            · exact .inr (.inr h)
            · exact .inr (.inl h)

theorem okA (p : Pr) : ∀ (k : Nat) (l : List Pr), l.length = k → Srt l → OkA p l (foA p l)
  | 0, l, hk, _ => by
    obtain rfl := List.eq_nil_of_length_eq_zero hk
    exact okA_nil p
  | k + 1, l, hk, hs => by
    rcases List.eq_nil_or_concat l with rfl | ⟨r, x, rfl⟩
    · simp at hk
    rw [List.concat_eq_append] at *
    rw [foA_snoc]
    exact okA_snoc hs (okA p k r (by simpa using hk) hs.init.1)

theorem addP_ok {l : List Pr} (p : Pr) (h : Srt l) : Srt (addP l p) ∧ (∀ q, q ∈ addP l p ↔ q ∈ l ∨ q = p) ∧ (addP l p).length ≤ l.length + 1 := by
  obtain ⟨h1, h2, h3, hh, h4, h5⟩ := okA p l.length l rfl h
  unfold addP
  cases hd : (foA p l).1
  · have hm : ∀ q, q ∈ (foA p l).2 ↔ q ∈ l := fun q => by simpa [hd] using h2 q
    simp only [Bool.false_eq_true, if_false]
    refine ⟨Srt.snoc h1 fun y hy => h3 hd y ((hm y).1 hy), fun q => by simp [hm], ?_⟩
    have := h5 hd
    simp; omega
  · simp only [if_true]
    exact ⟨h1, fun q => by simpa [hd] using h2 q, h4⟩

/-- The reference's Make. -/
def mkP (l : List Pr) : List Pr := l.foldl addP []

theorem mkP_snoc (l : List Pr) (x : Pr) : mkP (l ++ [x]) = addP (mkP l) x := by simp [mkP]

theorem mkP_ok : ∀ (k : Nat) (l : List Pr), l.length = k → Srt (mkP l) ∧ (∀ q, q ∈ mkP l ↔ q ∈ l) ∧ (mkP l).length ≤ l.length
  | 0, l, hk => by
    obtain rfl := List.eq_nil_of_length_eq_zero hk
    exact ⟨Srt.nil, fun q => Iff.rfl, Nat.le_refl _⟩
  | k + 1, l, hk => by
    rcases List.eq_nil_or_concat l with rfl | ⟨r, x, rfl⟩
    · simp at hk
    rw [List.concat_eq_append] at *
    obtain ⟨h1, h2, h3⟩ := mkP_ok k r (by simpa using hk)
    obtain ⟨g1, g2, g3⟩ := addP_ok x h1
    rw [mkP_snoc]
    exact ⟨g1, fun q => by simp [g2, h2], by simp; omega⟩

theorem mkP_srt (l : List Pr) : Srt (mkP l) := (mkP_ok _ l rfl).1

theorem mem_mkP {l : List Pr} {q : Pr} : q ∈ mkP l ↔ q ∈ l := (mkP_ok _ l rfl).2.1 q

theorem mkP_len (l : List Pr) : (mkP l).length ≤ l.length := (mkP_ok _ l rfl).2.2

/-- A pair set is what Make makes of whatever list has its pairs. -/
theorem mkP_eq {l r : List Pr} (hr : Srt r) (h : ∀ q, q ∈ r ↔ q ∈ l) : r = mkP l := srt_ext hr (mkP_srt l) fun q => (h q).trans mem_mkP.symm

theorem mkP_self {l : List Pr} (h : Srt l) : mkP l = l := (mkP_eq h fun _ => Iff.rfl).symm

theorem mkP_congr {l r : List Pr} (h : ∀ q, q ∈ l ↔ q ∈ r) : mkP l = mkP r := mkP_eq (mkP_srt l) fun q => mem_mkP.trans (h q)

theorem addP_eq {l : List Pr} {p : Pr} (h : Srt l) : addP l p = mkP (l ++ [p]) := mkP_eq (addP_ok p h).1 fun q => by simp [(addP_ok p h).2.1 q]

/-- Whether a pair is in a list. -/
def hasP (l : List Pr) (p : Pr) : Bool := decide (p ∈ l)

/-- The first pair of a that is not in b. -/
def misP (a b : List Pr) : Option Pr := a.find? fun x => !hasP b x

theorem misP_none {a b : List Pr} : misP a b = none ↔ ∀ x ∈ a, x ∈ b := by simp [misP, hasP]

theorem misP_take {a b : List Pr} {i : Nat} (hi : i < a.length) (h : ∀ x ∈ a.take i, x ∈ b) (hn : a[i] ∉ b) : misP a b = some a[i] := by
  have e : a = a.take i ++ a[i] :: a.drop (i + 1) := by simp
  have e1 : (a.take i).find? (fun x => !hasP b x) = none := List.find?_eq_none.2 (by simpa [hasP] using h)
  have e2 : (a[i] :: a.drop (i + 1)).find? (fun x => !hasP b x) = some a[i] := List.find?_cons_of_pos (by simp [hasP, hn])
  unfold misP
  refine (congrArg (List.find? fun x => !hasP b x) e).trans ?_
  rw [List.find?_append, e1, Option.none_or, e2]

/-- Whether a list is a pair set. -/
def srtB (l : List Pr) : Bool := (List.range (l.length - 1)).all fun i => ltP (l.getD i (0, 0)) (l.getD (i + 1) (0, 0))

theorem getD_get {l : List Pr} {i : Nat} (hi : i < l.length) : l.getD i (0, 0) = l[i] := by simp [List.getD, hi]

theorem srtB_yes {l : List Pr} (h : ∀ i, i + 1 < l.length → ltP (l.getD i (0, 0)) (l.getD (i + 1) (0, 0)) = true) : srtB l = true := by
  unfold srtB
  rw [List.all_eq_true]
  intro i hi
  exact h i (by have := List.mem_range.1 hi; omega)

theorem srtB_no {l : List Pr} {i : Nat} (hi : i + 1 < l.length) (h : ltP (l.getD i (0, 0)) (l.getD (i + 1) (0, 0)) = false) : srtB l = false := by
  rw [← Bool.not_eq_true]
  unfold srtB
  intro e
  rw [List.all_eq_true] at e
  have := e i (List.mem_range.2 (by omega))
  rw [h] at this
  cases this

theorem srtB_of {l : List Pr} (h : Srt l) : srtB l = true := srtB_yes fun i hi => by
  rw [getD_get hi, getD_get (by omega)]
  exact h.lt (by omega) hi

theorem mem_take_succ {l : List Pr} {i : Nat} (hi : i < l.length) {q : Pr} : q ∈ l.take (i + 1) ↔ q ∈ l.take i ∨ q = l[i] := by
  rw [List.take_succ_eq_append_getElem hi, List.mem_append, List.mem_singleton]

theorem drop_head {l : List Pr} {i : Nat} (hi : i < l.length) {q : Pr} : q ∈ l.drop i ↔ q = l[i] ∨ q ∈ l.drop (i + 1) := by
  rw [List.drop_eq_getElem_cons hi, List.mem_cons]

theorem Srt.head_lt {l : List Pr} (h : Srt l) {i : Nat} (hi : i < l.length) {q : Pr} (hq : q ∈ l.drop (i + 1)) : ltP l[i] q = true := by
  have := h.drop i
  rw [List.drop_eq_getElem_cons hi] at this
  exact (List.pairwise_cons.1 this).1 q hq

/-- Pairs as cells. -/
def prs (l : List Pr) : List Value := l.flatMap fun p => [.int .i64 p.1, .int .i64 p.2]

theorem prs_nil : prs [] = [] := rfl

theorem prs_length (l : List Pr) : (prs l).length = l.length * 2 := by
  induction l with
  | nil => rfl
  | cons x r ih => simp only [prs, List.flatMap_cons, List.length_append, List.length_cons, List.length_nil] at *; omega

theorem prs_append (l r : List Pr) : prs (l ++ r) = prs l ++ prs r := by simp [prs]

theorem prs_one (l : List Pr) : ∀ u ∈ prs l, u.oneCell' = true := by
  intro u hu
  obtain ⟨p, _, hp⟩ := List.mem_flatMap.1 hu
  simp at hp
  rcases hp with rfl | rfl <;> rfl

theorem prs_get : ∀ {l : List Pr} {i : Nat} (hi : i < l.length), (prs l)[i * 2]? = some (.int .i64 l[i].1) ∧ (prs l)[i * 2 + 1]? = some (.int .i64 l[i].2)
  | [], _, h => by simp at h
  | x :: r, 0, _ => by simp [prs]
  | x :: r, i + 1, h => by
    have := prs_get (l := r) (i := i) (by simpa using h)
    simp only [List.getElem_cons_succ]
    refine ⟨?_, ?_⟩
    · rw [show (i + 1) * 2 = i * 2 + 1 + 1 by omega]
      exact this.1
    · rw [show (i + 1) * 2 + 1 = i * 2 + 1 + 1 + 1 by omega]
      exact this.2

theorem prs_take (l : List Pr) (k : Nat) : (prs l).take (k * 2) = prs (l.take k) := by
  induction l generalizing k with
  | nil => simp [prs]
  | cons x r ih =>
    rcases k with _ | k
    · simp [prs]
    · rw [show (k + 1) * 2 = k * 2 + 1 + 1 by omega]
      simp only [prs, List.flatMap_cons, List.cons_append, List.nil_append, List.take_succ_cons] at *
      rw [ih k]

theorem prs_drop (l : List Pr) (k : Nat) : (prs l).drop (k * 2) = prs (l.drop k) := by
  induction l generalizing k with
  | nil => simp [prs]
  | cons x r ih =>
    rcases k with _ | k
    · simp [prs]
    · rw [show (k + 1) * 2 = k * 2 + 1 + 1 by omega]
      simp only [prs, List.flatMap_cons, List.cons_append, List.nil_append, List.drop_succ_cons] at *
      rw [ih k]

theorem prs_inj {l r : List Pr} (h : prs l = prs r) : l = r := by
  induction l generalizing r with
  | nil =>
    have := congrArg List.length h
    rw [prs_length, prs_length, List.length_nil] at this
    exact (List.eq_nil_of_length_eq_zero (by omega)).symm
  | cons x l ih =>
    rcases r with _ | ⟨y, r⟩
    · simp [prs] at h
    · simp only [prs, List.flatMap_cons, List.cons_append, List.nil_append, List.cons.injEq, Value.int.injEq, true_and] at h
      rw [pr_eq h.1 h.2.1, ih h.2.2]

/-- A pair of a slice that is seen. -/
theorem sees_pair {w : World} {B : Nat} {A : Option Addr} {l : List Pr} (h : Sees w B A (prs l)) {i : Nat} (hi : i < l.length) :
    ∃ b o, A = some ⟨b, o, none⟩ ∧ b < B ∧ w.cell? ⟨b, o + i * 2, none⟩ = some (.int .i64 l[i].1) ∧ w.cell? ⟨b, o + i * 2 + 1, none⟩ = some (.int .i64 l[i].2) := by
  obtain ⟨b, o, e, hb, hc⟩ := h (by
    intro e
    have := congrArg List.length e
    rw [prs_length, List.length_nil] at this
    omega)
  exact ⟨b, o, e, hb, hc _ _ (prs_get hi).1, by rw [Nat.add_assoc]; exact hc _ _ (prs_get hi).2⟩

end Go.Proofs.YtcoehkphdfejjaaGreat

/-
  The order of pairs: cmp.Compare, cmp.Or, compare, Less of both.
-/
namespace Go.Proofs.YtcoehkphdfejjaaGreat
open Go.RowKit
set_option linter.unusedVariables false

set_option maxHeartbeats 1000000 in
theorem cmpInt_any (x y : Int) (w : World) : Calls Tryz.prog 101 #[.int .i64 x, .int .i64 y] w fun e w' => e = .returned (.int .i64 (Lib.compareInt x y)) ∧ w' = w := by
  have hn : ∀ v W, Calls Tryz.prog 113 #[.int .i64 v] W fun e w' => e = .returned (.bool false) ∧ w' = W := fun v W => by
    go_enter Tryz.func113, Tryz.ntmps113
    go_wp2
    go_ret
    exact ⟨by simp, rfl⟩
  go_enter Tryz.func101, Tryz.ntmps101
  go_wp2_with (go_at_call 113; refine (hn _ _).mono ?_; rintro e w' ⟨rfl, rfl⟩)
  all_goals (go_ret; refine ⟨?_, rfl⟩; unfold Lib.compareInt; (repeat' split) <;> first | rfl | (exfalso; omega))

set_option maxHeartbeats 1000000 in
theorem cmpLoc_any (x y : Int) (w : World) : Calls Tryz.prog 102 #[.int .i64 x, .int .i64 y] w fun e w' => e = .returned (.int .i64 (Lib.compareInt x y)) ∧ w' = w := by
  have hn : ∀ v W, Calls Tryz.prog 114 #[.int .i64 v] W fun e w' => e = .returned (.bool false) ∧ w' = W := fun v W => by
    go_enter Tryz.func114, Tryz.ntmps114
    go_wp2
    go_ret
    exact ⟨by simp, rfl⟩
  go_enter Tryz.func102, Tryz.ntmps102
  go_wp2_with (go_at_call 114; refine (hn _ _).mono ?_; rintro e w' ⟨rfl, rfl⟩)
  all_goals (go_ret; refine ⟨?_, rfl⟩; unfold Lib.compareInt; (repeat' split) <;> first | rfl | (exfalso; omega))

def orP (x y : Int) : Int := if x = 0 then y else x

theorem orP_0 {x : Int} (h : x = 0) (y : Int) : orP x y = y := if_pos h

theorem orP_1 {x : Int} (h : ¬ x = 0) (y : Int) : orP x y = x := if_neg h

set_option maxHeartbeats 1000000 in
theorem cmpOr_any (b c : Nat) (x y : Int) (w : World) (h0 : w.cell? ⟨b, 0, none⟩ = some (.int .i64 x)) (h1 : w.cell? ⟨b, 1, none⟩ = some (.int .i64 y)) :
    Calls Tryz.prog 100 #[.slice (some ⟨b, 0, none⟩) 2 c] w fun e w' => e = .returned (.int .i64 (orP x y)) ∧ w' = w := by
  by_cases hx : x = 0
  · have e1 : (x != 0) = false := by simp [hx]
    have HX := Lib.hid hx
    clear hx
    by_cases hy : y = 0
    · have e2 : (y != 0) = false := by simp [hy]
      have HY := Lib.hid hy
      clear hy
      go_enter Tryz.func100, Tryz.ntmps100
      go_wp2
      refine wp_loop_rounds 3 ?_
      rw [rounds_succ]
      go_wp2
      rw [rounds_succ]
      go_wp2
      rw [rounds_succ]
      go_wp2
      go_ret
      exact ⟨by rw [orP_0 HX.out, HY.out]; rfl, rfl⟩
    · have e2 : (y != 0) = true := by simp [hy]
      clear hy
      go_enter Tryz.func100, Tryz.ntmps100
      go_wp2
      refine wp_loop_rounds 2 ?_
      rw [rounds_succ]
      go_wp2
      rw [rounds_succ]
      go_wp2
      go_ret
      exact ⟨by rw [orP_0 HX.out]; rfl, rfl⟩
  · have e1 : (x != 0) = true := by simp [hx]
    have HX := Lib.hid hx
    clear hx
    go_enter Tryz.func100, Tryz.ntmps100
    go_wp2
    refine wp_loop_rounds 1 ?_
    rw [rounds_succ]
    go_wp2
    go_ret
    exact ⟨by rw [orP_1 HX.out]; rfl, rfl⟩

/-- What the program's comparison gives. -/
def cmpP (p q : Pr) : Int := orP (Lib.compareInt p.1 q.1) (Lib.compareInt p.2 q.2)

theorem cmpP_lt (p q : Pr) : decide (cmpP p q < 0) = ltP p q := by
  unfold cmpP orP ltP Lib.compareInt
  by_cases h1 : p.1 < q.1
  · simp [h1]
  · by_cases h2 : q.1 < p.1
    · have h3 : ¬ p.1 = q.1 := by omega
      simp [h1, h2, h3]
    · have h3 : p.1 = q.1 := by omega
      by_cases h4 : p.2 < q.2
      · simp [h3, h4]
      · by_cases h5 : q.2 < p.2
        · simp [h3, h4, h5]
        · simp [h3, h4, h5]

theorem cmpP_zero (p q : Pr) : (cmpP p q == 0) = decide (p = q) := by
  unfold cmpP orP Lib.compareInt
  by_cases h1 : p.1 < q.1
  · have : p ≠ q := fun e => by subst e; omega
    simp [h1, this]
  · by_cases h2 : q.1 < p.1
    · have : p ≠ q := fun e => by subst e; omega
      simp [h1, h2, this]
    · have h3 : p.1 = q.1 := by omega
      by_cases h4 : p.2 < q.2
      · have : p ≠ q := fun e => by subst e; omega
        simp [h3, h4, this]
      · by_cases h5 : q.2 < p.2
        · have : p ≠ q := fun e => by subst e; omega
          simp [h3, h4, h5, this]
        · have : p = q := pr_eq h3 (by omega)
          simp [this]

set_option maxRecDepth 100000 in
set_option maxHeartbeats 1000000 in
theorem compare_any (p q : Pr) (w : World) : Calls Tryz.prog 90 #[.agg #[.int .i64 p.1, .int .i64 p.2], .agg #[.int .i64 q.1, .int .i64 q.2]] w fun e w' => e = .returned (.int .i64 (cmpP p q)) ∧ Grew w w' := by
  obtain ⟨p1, p2⟩ := p
  obtain ⟨q1, q2⟩ := q
  unfold cmpP
  dsimp only
  have C1 := Lib.hid fun W => cmpInt_any p1 q1 W
  have C2 := Lib.hid fun W => cmpLoc_any p2 q2 W
  generalize Lib.compareInt p1 q1 = x at C1 ⊢
  generalize Lib.compareInt p2 q2 = y at C2 ⊢
  have hA := (Row.new w 89 #[.int .i64 p1, .int .i64 p2]).alloc (.cells #[.int .i64 q1, .int .i64 q2] 89)
  have hB := Row.new (w.alloc (.cells #[.int .i64 p1, .int .i64 p2] 89)) 89 #[.int .i64 q1, .int .i64 q2]
  rw [show (w.alloc (.cells #[.int .i64 p1, .int .i64 p2] 89)).heap.size = w.heap.size + 1 by simp] at hB
  have HG := Lib.hid (((Grew.refl w).alloc (.cells #[.int .i64 p1, .int .i64 p2] 89)).alloc (.cells #[.int .i64 q1, .int .i64 q2] 89))
  go_enter Tryz.func90, Tryz.ntmps90
  go_upto_region 1 with fail
  generalize ((w.alloc (.cells #[.int .i64 p1, .int .i64 p2] 89)).alloc (.cells #[.int .i64 q1, .int .i64 q2] 89)) = W0 at *
  have a0 := hA.cell 0; have a1 := hA.cell 1; have b0 := hB.cell 0; have b1 := hB.cell 1
  simp only [List.getElem?_toArray, List.getElem?_cons_zero, List.getElem?_cons_succ] at a0 a1 b0 b1
  have n0 := (Row.new W0 3 #[.int .i64 x, .int .i64 y]).cell 0
  have n1 := (Row.new W0 3 #[.int .i64 x, .int .i64 y]).cell 1
  have C3 : Hid (Calls Tryz.prog 100 #[.slice (some ⟨W0.heap.size, 0, none⟩) 2 2] (W0.alloc (.cells #[.int .i64 x, .int .i64 y] 3)).drew fun e w' => e = .returned (.int .i64 (orP x y)) ∧ w' = (W0.alloc (.cells #[.int .i64 x, .int .i64 y] 3)).drew) := cmpOr_any W0.heap.size 2 x y (W0.alloc (.cells #[.int .i64 x, .int .i64 y] 3)).drew n0 n1
  clear n0 n1
  clear hA hB
  have HS : Hid (∀ W, Grew W0 W → W.cell? ⟨w.heap.size, 0, none⟩ = some (.int .i64 p1) ∧ W.cell? ⟨w.heap.size, 1, none⟩ = some (.int .i64 p2) ∧ W.cell? ⟨w.heap.size + 1, 0, none⟩ = some (.int .i64 q1) ∧ W.cell? ⟨w.heap.size + 1, 1, none⟩ = some (.int .i64 q2)) := fun W h => ⟨h.cell a0, h.cell a1, h.cell b0, h.cell b1⟩
  have hG := Grew.refl W0
  go_region_held3 (fun w' => w'.cell? ⟨w.heap.size, 0, none⟩ = some (.int .i64 p1) ∧ w'.cell? ⟨w.heap.size, 1, none⟩ = some (.int .i64 p2) ∧ w'.cell? ⟨w.heap.size + 1, 0, none⟩ = some (.int .i64 q1) ∧ w'.cell? ⟨w.heap.size + 1, 1, none⟩ = some (.int .i64 q2)) (first | exact HS.out _ hG | exact HS.out _ hG.drew | exact HS.out _ (hG.drew.alloc _) | exact HS.out _ (hG.alloc _)) (first
    | (go_at_call 101; go_must (refine (C1.out _).mono ?_; rintro e w' ⟨rfl, rfl⟩))
    | (go_at_call 102; go_must (refine (C2.out _).mono ?_; rintro e w' ⟨rfl, rfl⟩))
    | (go_at_call 100; go_must (refine C3.out.mono ?_; rintro e w' ⟨rfl, rfl⟩)))
  go_wp2
  go_ret
  exact ⟨rfl, (HG.out.alloc _).drew⟩

set_option maxRecDepth 100000 in
set_option maxHeartbeats 1000000 in
theorem less_any (p q : Pr) (w : World) : Calls Tryz.prog 75 #[.agg #[.int .i64 p.1, .int .i64 p.2], .agg #[.int .i64 q.1, .int .i64 q.2]] w fun e w' => e = .returned (.bool (ltP p q)) ∧ Grew w w' := by
  have C1 := Lib.hid fun W => compare_any p q W
  rw [← cmpP_lt]
  obtain ⟨p1, p2⟩ := p
  obtain ⟨q1, q2⟩ := q
  dsimp only at C1
  generalize cmpP (p1, p2) (q1, q2) = x at C1 ⊢
  have hA := (Row.new w 89 #[.int .i64 p1, .int .i64 p2]).alloc (.cells #[.int .i64 q1, .int .i64 q2] 89)
  have hB := Row.new (w.alloc (.cells #[.int .i64 p1, .int .i64 p2] 89)) 89 #[.int .i64 q1, .int .i64 q2]
  rw [show (w.alloc (.cells #[.int .i64 p1, .int .i64 p2] 89)).heap.size = w.heap.size + 1 by simp] at hB
  have HG := Lib.hid (((Grew.refl w).alloc (.cells #[.int .i64 p1, .int .i64 p2] 89)).alloc (.cells #[.int .i64 q1, .int .i64 q2] 89))
  go_enter Tryz.func75, Tryz.ntmps75
  go_upto_region 1 with fail
  generalize ((w.alloc (.cells #[.int .i64 p1, .int .i64 p2] 89)).alloc (.cells #[.int .i64 q1, .int .i64 q2] 89)) = W0 at *
  have a0 := hA.cell 0; have a1 := hA.cell 1; have b0 := hB.cell 0; have b1 := hB.cell 1
  simp only [List.getElem?_toArray, List.getElem?_cons_zero, List.getElem?_cons_succ] at a0 a1 b0 b1
  clear hA hB
  go_wp2_with fail
  refine (C1.out _).mono ?_
  rintro e W1 ⟨rfl, hG⟩
  go_wp2
  go_ret
  exact ⟨rfl, HG.out.trans hG⟩

theorem eq_pr (p q : Pr) (w : World) : (binOp .eql 89 (.agg #[.int .i64 p.1, .int .i64 p.2]) (.agg #[.int .i64 q.1, .int .i64 q.2])).run Tryz.prog w = .ok (.bool (decide (p = q))) w := by
  have u3 := Tryz.underlying3
  have a3 := Tryz.isAgg3
  have z3 := Tryz.sizeOf3
  have u23 := Tryz.underlying54
  have a23 := Tryz.isAgg54
  have z23 := Tryz.sizeOf54
  have hS : Tryz.prog.underlying 89 = some (.struct (Tryz.prog.fieldsOf 89)) := by kernel_rfl
  have hp : Tryz.prog.stoodInHeld 89 = false := by kernel_rfl
  rw [run_eql_struct, show (10000 : Nat) = 9999 + 1 from rfl, run_equalIn_agg w 9999 89 _ _ hS hp]
  simp only [Program.fieldsOf, Tryz.underlying89]
  obtain ⟨p1, p2⟩ := p
  obtain ⟨q1, q2⟩ := q
  go_simp
  by_cases h1 : p1 = q1 <;> by_cases h2 : p2 = q2 <;> simp [h1, h2]

theorem neq_pr (p q : Pr) (w : World) : (binOp .neq 89 (.agg #[.int .i64 p.1, .int .i64 p.2]) (.agg #[.int .i64 q.1, .int .i64 q.2])).run Tryz.prog w = .ok (.bool (!decide (p = q))) w := by
  have u3 := Tryz.underlying3
  have a3 := Tryz.isAgg3
  have z3 := Tryz.sizeOf3
  have u23 := Tryz.underlying54
  have a23 := Tryz.isAgg54
  have z23 := Tryz.sizeOf54
  have hS : Tryz.prog.underlying 89 = some (.struct (Tryz.prog.fieldsOf 89)) := by kernel_rfl
  have hp : Tryz.prog.stoodInHeld 89 = false := by kernel_rfl
  rw [run_neq_struct, show (10000 : Nat) = 9999 + 1 from rfl, run_equalIn_agg w 9999 89 _ _ hS hp]
  simp only [Program.fieldsOf, Tryz.underlying89]
  obtain ⟨p1, p2⟩ := p
  obtain ⟨q1, q2⟩ := q
  go_simp
  by_cases h1 : p1 = q1 <;> by_cases h2 : p2 = q2 <;> simp [h1, h2]

theorem guard_pr : Tryz.prog.eqGuardType Tryz.prog.depth 89 = false := by kernel_rfl

end Go.Proofs.YtcoehkphdfejjaaGreat

/-
  The reference's Same; Sorted of both.
-/
namespace Go.Proofs.YtcoehkphdfejjaaGreat
open Go.RowKit
set_option linter.unusedVariables false

theorem take_same {l r : List Pr} {k : Nat} (h : l.take k = r.take k) (hl : k < l.length) (hr : k < r.length) (he : l[k] = r[k]) : l.take (k + 1) = r.take (k + 1) := by
  rw [List.take_succ_eq_append_getElem hl, List.take_succ_eq_append_getElem hr, h, he]

set_option maxRecDepth 100000 in
set_option maxHeartbeats 1000000 in
theorem prsame_any (B : Nat) (A A' : Option Addr) (l r : List Pr) (c c' : Nat) (w : World) (hs : Sees w B A (prs l)) (hs' : Sees w B A' (prs r)) (hm : l.length ≤ maxLen) (hm' : r.length ≤ maxLen) :
    Calls Tryz.prog 45 #[.slice A l.length c, .slice A' r.length c'] w fun e w' => e = .returned (.bool (decide (l = r))) ∧ Grew w w' := by
  unfold maxLen at hm hm'
  have hG := guard_pr
  obtain ⟨bb, hbb⟩ : ∃ b, b = decide (l = r) := ⟨_, rfl⟩
  rw [← hbb]
  have HBB := Lib.hid hbb
  clear hbb
  have HG := Lib.hid (Grew.refl w)
  by_cases hlen : l.length = r.length
  · have e1 : ((l.length : Int) != (r.length : Int)) = false := by simp [hlen]
    have HL := Lib.hid hlen
    clear hlen
    go_enter Tryz.func45, Tryz.ntmps45
    go_wp2
    go_loopw [5] (fun i wr => ∃ k n : Nat, k ≤ l.length ∧ i = .int .i64 k ∧ Hid (l.take k = r.take k) ∧ wr = w.drewN n) (fun i _ => l.length - (intOf i).toNat)
    case atStart => exact ⟨0, 0, Nat.zero_le _, rfl, by simp [Hid], rfl⟩
    case round =>
      obtain ⟨k, n, hk, rfl, HT, rfl⟩ := hrel
      by_cases hlt : k < l.length
      · have hltr : k < r.length := by have := HL.out; omega
        obtain ⟨b, o, rfl, _, hc0, hc1⟩ := sees_pair hs hlt
        obtain ⟨b', o', rfl, _, hd0, hd1⟩ := sees_pair hs' hltr
        have hq : ∀ W, (binOp .neq 89 (.agg #[.int .i64 l[k].1, .int .i64 l[k].2]) (.agg #[.int .i64 r[k].1, .int .i64 r[k].2])).run Tryz.prog W = .ok (.bool (!decide (l[k] = r[k]))) W := fun W => neq_pr _ _ W
        by_cases hxy : l[k] = r[k]
        · have HS := Lib.hid (take_same HT.out hlt hltr hxy)
          have hq' : (!decide (l[k] = r[k])) = false := by simp [hxy]
          rw [hq'] at hq
          clear hs hs' HT hxy hq'
          generalize l[k].1 = x1 at *
          generalize l[k].2 = x2 at *
          generalize r[k].1 = y1 at *
          generalize r[k].2 = y2 at *
          go_wp2
          go_quiet (fail)
          go_wp2
          go_roundw
          case rel => exact ⟨k + 1, _, by omega, by go_num, HS.out, rfl⟩
          case measure => simp [intOf]; omega
        · have HE := Lib.hid (show decide (l = r) = false from decide_eq_false fun e => hxy (by subst e; rfl))
          have hq' : (!decide (l[k] = r[k])) = true := by simp [hxy]
          rw [hq'] at hq
          clear hs hs' HT hxy hq'
          generalize l[k].1 = x1 at *
          generalize l[k].2 = x2 at *
          generalize r[k].1 = y1 at *
          generalize r[k].2 = y2 at *
          go_wp2
          go_quiet (fail)
          go_wp2
          go_ret
          rw [HBB.out, HE.out]
          exact ⟨rfl, (HG.out.drewN _).drewN _⟩
      · have HE := Lib.hid (show decide (l = r) = true from decide_eq_true (by have hl := HL.out; have ht := HT.out; rw [List.take_of_length_le (by omega), List.take_of_length_le (by omega)] at ht; exact ht))
        clear HT hs hs'
        go_wp2
        go_ret
        rw [HBB.out, HE.out]
        exact ⟨rfl, HG.out.drewN _⟩
  · have HE := Lib.hid (show decide (l = r) = false from decide_eq_false fun e => hlen (by rw [e]))
    have e1 : ((l.length : Int) != (r.length : Int)) = true := by simp; omega
    clear hlen
    go_enter Tryz.func45, Tryz.ntmps45
    go_wp2
    go_ret
    rw [HBB.out, HE.out]
    exact ⟨rfl, HG.out⟩

end Go.Proofs.YtcoehkphdfejjaaGreat

/-
  Lists of pairs that a call owns.
-/
namespace Go.Proofs.YtcoehkphdfejjaaGreat
open Go.RowKit
set_option linter.unusedVariables false

theorem infoPr : (Tryz.prog.info? 89).map (fun i => (i.zero, i.size, i.bytes)) = some (some (.agg #[.int .i64 0, .int .i64 0]), 2, 16) := by kernel_rfl

theorem info_pr : ∃ i : TypeInfo, Tryz.prog.info? 89 = some i ∧ i.zero = some (.agg #[.int .i64 0, .int .i64 0]) ∧ i.size = 2 ∧ i.bytes = 16 := by
  have h := infoPr
  rcases hi : Tryz.prog.info? 89 with _ | i
  · rw [hi] at h; simp at h
  · rw [hi] at h
    simp only [Option.map_some, Option.some.injEq, Prod.mk.injEq] at h
    exact ⟨i, rfl, h.1, h.2.1, h.2.2⟩

/-- The value v is a list of pairs in memory of its own, new to the world w; of what was there nothing has turned. -/
structure PL (w : World) (v : Value) (l : List Pr) (wr : World) : Prop where
  own : wr.ownsRow w.heap.size 89 2 v l.length (prs l)
  blw : Below w.heap.size w wr


/-- The block of a pair that is appended. -/
abbrev prObj (x1 x2 : Int) : Obj := .cells #[.int .i64 x1, .int .i64 x2] 89

section
variable {w wr w' : World} {v : Value} {l : List Pr}

theorem PL.nil (w : World) : PL w (.slice none 0 0) [] w := ⟨⟨by simp [prs], .inl ⟨rfl, rfl⟩⟩, Below.refl _ _⟩

theorem PL.next (h : PL w v l wr) (hb : Below wr.heap.size wr w') : PL w v l w' :=
  ⟨(Mods.of_below (S := No) hb).ownS h.own fun _ _ hs => hs.elim, h.blw.trans (hb.mono h.blw.size)⟩

theorem PL.grew (h : PL w v l wr) (hb : Grew wr w') : PL w v l w' := h.next hb.below

theorem PL.alloc (h : PL w v l wr) (o : Obj) : PL w v l (wr.alloc o) := h.next ((Below.refl _ _).alloc (Nat.le_refl _) o)

theorem PL.slice (h : PL w v l wr) : ∃ A c, v = .slice A l.length c ∧ l.length ≤ c ∧ c ≤ maxLen := ownS_slice h.own

theorem PL.sees {A : Option Addr} {n c : Nat} (h : PL w (.slice A n c) l wr) : Sees wr wr.heap.size A (prs l) := by
  obtain ⟨A', c', e, _⟩ := h.slice
  injection e with e1 e2 e3
  subst e2
  exact sees_own h.own

theorem PL.base {w0 : World} (h : PL w v l wr) (hb : Below w0.heap.size w0 w) : PL w0 v l wr :=
  ⟨ownS_base h.own hb.size, hb.trans (h.blw.mono hb.size)⟩

theorem PL.push (h : PL w v l wr) (x1 x2 : Int) {v' : Value} {n : Nat} (hn : n = l.length)
    (ho : w'.ownsRow w.heap.size 89 2 v' (n + 1) (prs l ++ prs [(x1, x2)])) (hg : (wr.alloc (prObj x1 x2)).grownBy w' v.ownBlock) : PL w v' (l ++ [(x1, x2)]) w' := by
  subst hn
  refine ⟨by rw [prs_append, List.length_append]; exact ho, ?_⟩
  have hb : Below w.heap.size w (wr.alloc (prObj x1 x2)) := (h.alloc _).blw
  exact hb.grown hg hb.size fun k hk => (ownS_lt h.own k hk).1

theorem new_sees (wr : World) (x1 x2 : Int) : Sees (wr.alloc (prObj x1 x2)) (wr.heap.size + 1) (some ⟨wr.heap.size, 0, none⟩) (prs [(x1, x2)]) := sees_new wr #[.int .i64 x1, .int .i64 x2] 89

end

end Go.Proofs.YtcoehkphdfejjaaGreat

/-
  The reference's Add and Make.
-/
namespace Go.Proofs.YtcoehkphdfejjaaGreat
open Go.RowKit
set_option linter.unusedVariables false

theorem stA_t (p : Pr) (o : List Pr) (x : Pr) (he : x = p) : stA p (true, o) x = (true, o) := by simp [stA, he]

theorem stA_tn (p : Pr) (o : List Pr) (x : Pr) (he : ¬ x = p) : stA p (true, o) x = (true, o ++ [x]) := by simp [stA, he]

theorem stA_f (p : Pr) (o : List Pr) (x : Pr) (hl : ltP x p = true) (he : x = p) : stA p (false, o) x = (false, o) := by subst he; simp [stA, hl]

theorem stA_fn (p : Pr) (o : List Pr) (x : Pr) (hl : ltP x p = true) (he : ¬ x = p) : stA p (false, o) x = (false, o ++ [x]) := by simp [stA, hl, he]

theorem stA_p (p : Pr) (o : List Pr) (x : Pr) (hl : ltP x p = false) (he : x = p) : stA p (false, o) x = (true, o ++ [p]) := by subst he; simp [stA, hl]

theorem stA_pn (p : Pr) (o : List Pr) (x : Pr) (hl : ltP x p = false) (he : ¬ x = p) : stA p (false, o) x = (true, o ++ [p] ++ [x]) := by simp [stA, hl, he]

theorem stA_len (p : Pr) (s : Bool × List Pr) (x : Pr) : (stA p s x).2.length ≤ s.2.length + 2 := by
  unfold stA
  dsimp only
  split <;> split <;> simp <;> omega

theorem foA_len (p : Pr) : ∀ (k : Nat) (l : List Pr), l.length = k → (foA p l).2.length ≤ 2 * k
  | 0, l, hk => by
    obtain rfl := List.eq_nil_of_length_eq_zero hk
    simp [foA]
  | k + 1, l, hk => by
    rcases List.eq_nil_or_concat l with rfl | ⟨r, x, rfl⟩
    · simp at hk
    rw [List.concat_eq_append] at *
    rw [foA_snoc]
    have := stA_len p (foA p r) x
    have := foA_len p k r (by simpa using hk)
    omega

theorem foA_take (p : Pr) {l : List Pr} {k : Nat} (hk : k < l.length) : foA p (l.take (k + 1)) = stA p (foA p (l.take k)) l[k] := by
  rw [List.take_succ_eq_append_getElem hk, foA_snoc]

end Go.Proofs.YtcoehkphdfejjaaGreat

/-
  Missing of both.
-/
namespace Go.Proofs.YtcoehkphdfejjaaGreat
open Go.RowKit
set_option linter.unusedVariables false

/-- What Missing returns. -/
def mres : Option Pr → Value
  | some p => .tuple #[.agg #[.int .i64 p.1, .int .i64 p.2], .bool true]
  | none => .tuple #[.agg #[.int .i64 0, .int .i64 0], .bool false]

end Go.Proofs.YtcoehkphdfejjaaGreat

/-
  The program's Missing and Subset.
-/
namespace Go.Proofs.YtcoehkphdfejjaaGreat
open Go.RowKit
set_option linter.unusedVariables false

/-- What is left of b while Missing goes through a. -/
structure BAt (w : World) (B : Nat) (b : List Pr) (j n : Nat) (A : Option Addr) (c : Nat) : Prop where
  len : n + j = b.length
  cap : n ≤ c
  cmx : c ≤ maxLen
  see : Sees w B A (prs (b.drop j))

theorem BAt.get {w : World} {B : Nat} {b : List Pr} {j n : Nat} {A : Option Addr} {c : Nat} (h : BAt w B b j n A c) (hn : 0 < n) : ∃ bb oo, A = some ⟨bb, oo, none⟩ ∧ bb < B ∧ w.cell? ⟨bb, oo, none⟩ = some (.int .i64 (b[j]'(by have := h.len; omega)).1) ∧ w.cell? ⟨bb, oo + 1, none⟩ = some (.int .i64 (b[j]'(by have := h.len; omega)).2) := by
  have hl := h.len
  obtain ⟨bb, oo, e, hb, h0, h1⟩ := sees_pair h.see (i := 0) (by simp; omega)
  simp only [Nat.zero_mul, Nat.add_zero, List.getElem_drop] at h0 h1
  exact ⟨bb, oo, e, hb, h0, h1⟩

theorem BAt.next {w : World} {B : Nat} {b : List Pr} {j n bb oo : Nat} {c : Nat} (h : BAt w B b j (n + 1) (some ⟨bb, oo, none⟩) c) {A' : Option Addr} (hA : A' = if c = 1 then some ⟨bb, oo, none⟩ else some ⟨bb, oo + 2, none⟩) : BAt w B b (j + 1) n A' (c - 1) := by
  have hl := h.len
  have hc := h.cap
  have hm := h.cmx
  refine ⟨by omega, by omega, by omega, fun hn => ?_⟩
  have hn0 : 0 < n := by
    rcases Nat.eq_zero_or_pos n with h0 | h0
    · subst h0
      rw [List.drop_of_length_le (by omega)] at hn
      exact absurd rfl hn
    · exact h0
  rw [if_neg (by omega)] at hA
  obtain ⟨b1, o1, e, hb, hcell⟩ := h.see (by
    intro e
    have := congrArg List.length e
    rw [prs_length, List.length_drop, List.length_nil] at this
    omega)
  injection e with e
  injection e with e1 e2
  subst e1
  subst e2
  refine ⟨bb, oo + 2, hA, hb, fun i u hu => ?_⟩
  rw [Nat.add_assoc]
  refine hcell _ u ?_
  have e3 : prs (b.drop (j + 1)) = (prs (b.drop j)).drop (1 * 2) := by rw [prs_drop, List.drop_drop]
  rw [e3, List.getElem?_drop] at hu
  exact hu

theorem srt_lt_all {b : List Pr} (h : Srt b) {j : Nat} {p : Pr} (hj : j < b.length) (h1 : ∀ y ∈ b.take j, ltP y p = true) (h2 : ltP b[j] p = false) (h3 : b[j] ≠ p) : p ∉ b := by
  intro hp
  rw [← List.take_append_drop j b, List.mem_append, drop_head hj] at hp
  rcases hp with hp | hp | hp
  · have := h1 p hp
    rw [ltP_irrefl] at this
    cases this
  · exact h3 hp.symm
  · have := h.head_lt hj hp
    rw [h2] at this
    cases this

set_option maxRecDepth 100000 in
set_option maxHeartbeats 8000000 in
theorem pmissing_any (B : Nat) (A A' : Option Addr) (a b : List Pr) (c c' : Nat) (w : World) (hs : Sees w B A (prs a)) (hs' : Sees w B A' (prs b)) (hB : B ≤ w.heap.size) (hm : a.length ≤ 1000000) (hm' : b.length ≤ 1000000) (hc : b.length ≤ c') (hcm : c' ≤ maxLen) (hsa : Srt a) (hsb : Srt b) :
    Calls Tryz.prog 64 #[.slice A a.length c, .slice A' b.length c'] w fun e w' => e = .returned (mres (misP a b)) ∧ Below w.heap.size w w' := by
  have mixed : Tryz.prog.follows .mixedOrders = true := by kernel_rfl
  have hG := guard_pr
  have hR := Row.new w 89 #[.int .i64 0, .int .i64 0]
  have HWB := Lib.hid ((Below.refl w.heap.size w).alloc (Nat.le_refl _) (prObj 0 0))
  have hs1 := hs.alloc hB (prObj 0 0)
  have HSB : Hid (BAt (w.alloc (prObj 0 0)) B b 0 b.length A' c') := ⟨rfl, hc, hcm, hs'.alloc hB (prObj 0 0)⟩
  have HSA := Lib.hid hsa
  have HSB2 := Lib.hid hsb
  clear hs hs' hsa hsb hc hcm
  go_enter Tryz.func64, Tryz.ntmps64
  go_upto_region 1 with fail
  have hB1 : B ≤ (w.alloc (prObj 0 0)).heap.size := by simp; omega
  have HSZ := Lib.hid (show w.heap.size ≤ (w.alloc (prObj 0 0)).heap.size by simp)
  generalize (w.alloc (.cells #[.int .i64 0, .int .i64 0] 89)) = W0 at *
  have HR := Lib.hid hR
  clear hR
  go_wp2
  go_loopg [1, 10] a.length (fun g v1 v10 wr => ∃ (k j n : Nat) (A1 : Option Addr) (c1 : Nat), k + g = a.length ∧ v10 = .int .i64 k ∧ v1 = .slice A1 n c1 ∧ Hid (BAt W0 B b j n A1 c1) ∧ Hid (∀ y ∈ b.take j, ∀ x ∈ a.drop k, ltP y x = true) ∧ Hid (∀ x ∈ a.take k, x ∈ b) ∧ Hid (Grew W0 wr))
  case atStart => exact ⟨0, 0, b.length, A', c', by omega, by go_num, rfl, HSB.out, fun y hy => by simp at hy, fun x hx => by simp at hx, Grew.refl W0⟩
  case round =>
    obtain ⟨k, j, n, A1, c1, hg, rfl, rfl, HBT, HLO, HT, HW⟩ := hrel
    by_cases hlt : k < a.length
    · obtain ⟨b1, o1, rfl, hb, hc0, hc1⟩ := sees_pair hs1 hlt
      have f0 := HW.out.cell hc0
      have f1 := HW.out.cell hc1
      have HN : Hid (a[k] ∉ b → misP a b = some a[k]) := fun h => misP_take hlt HT.out h
      have HY : Hid (a[k] ∈ b → ∀ x ∈ a.take (k + 1), x ∈ b) := fun h x hx => ((mem_take_succ hlt).1 hx).elim (HT.out x) fun e => by subst e; exact h
      have HL0 : Hid (∀ y ∈ b.take j, ltP y a[k] = true) := fun y hy => HLO.out y hy _ ((drop_head hlt).2 (.inl rfl))
      have HL1 : Hid (∀ m, (∀ y ∈ b.take m, ltP y a[k] = true) → ∀ y ∈ b.take m, ∀ x ∈ a.drop (k + 1), ltP y x = true) := fun m h y hy x hx => ltP_trans (h y hy) (HSA.out.head_lt hlt hx)
      have hkz : (k : Int) < (a.length : Int) := by omega
      generalize a[k] = x at *
      obtain ⟨x1, x2⟩ := x
      dsimp only at f0 f1
      clear hc0 hc1
      go_upto_region 4 with fail
      have hX := Row.new wr 89 #[.int .i64 x1, .int .i64 x2]
      have HG1 := Lib.hid (HW.out.alloc (prObj x1 x2))
      clear f0 f1
      generalize (wr.alloc (.cells #[.int .i64 x1, .int .i64 x2] 89)) = W1 at *
      generalize wr.heap.size = pb at *
      have HX := Lib.hid hX
      clear hX hs1
      go_loopg [1] n (fun g2 v1 wr => ∃ (j n : Nat) (A1 : Option Addr) (c1 : Nat), n ≤ g2 ∧ v1 = .slice A1 n c1 ∧ Hid (BAt W0 B b j n A1 c1) ∧ Hid (∀ y ∈ b.take j, ltP y (x1, x2) = true) ∧ Hid (Grew W1 wr))
      case atStart => exact ⟨j, n, A1, c1, Nat.le_refl _, rfl, HBT.out, HL0.out, Grew.refl W1⟩
      case round =>
        clear HBT HLO HL0
        obtain ⟨j, n, A1, c1, hn2, rfl, HBT, HL0, HG2⟩ := hrel
        have hx := HG2.out.row HX.out
        have p0 := hx.cell 0
        have p1 := hx.cell 1
        simp only [List.getElem?_toArray, List.getElem?_cons_zero, List.getElem?_cons_succ] at p0 p1
        clear hx
        rcases n with _ | n
        · have HM := Lib.hid (HN.out fun h => by
            have hl := HBT.out.len
            have := HL0.out (x1, x2) (by rw [List.take_of_length_le (by omega)]; exact h)
            rw [ltP_irrefl] at this
            cases this)
          have HGF := Lib.hid (HG1.out.trans HG2.out)
          have hRf := HGF.out.row HR.out
          have r0 := hRf.cell 0
          have r1 := hRf.cell 1
          have q0 := hRf.frozen 0
          have q1 := hRf.frozen 1
          simp only [List.getElem?_toArray, List.getElem?_cons_zero, List.getElem?_cons_succ] at r0 r1
          clear hRf
          go_wp2_with fail
          go_quiet (fail)
          go_wp2_with fail
          go_quiet (fail)
          go_wp2
          (try simp only [Exit.inBlock, Exit.then])
          refine bodyPost_ret (v := .tuple #[.agg #[.int .i64 x1, .int .i64 x2], .bool true]) ?_ rfl ⟨?_, ?_⟩
          · rw [results_cell_tmp rfl]
            go_simp
          · rw [HM.out]
            rfl
          · exact (((HWB.out.trans ((HGF.out.drewN _).below.mono HSZ.out)).setCell (p := ⟨w.heap.size, 0, none⟩) (Nat.le_refl _) _).setCell (p := ⟨w.heap.size, 1, none⟩) (Nat.le_refl _) _)
        · obtain ⟨bb, oo, rfl, hbb, d0, d1⟩ := HBT.out.get (by omega)
          have hjb : j < b.length := by have := HBT.out.len; omega
          have HSN := Lib.hid (fun h2 h3 => HN.out (srt_lt_all HSB2.out hjb HL0.out h2 h3))
          have HYE : Hid (b[j] = (x1, x2) → (x1, x2) ∈ b) := fun h => by rw [← h]; exact List.getElem_mem _
          have HLT : Hid (ltP b[j] (x1, x2) = true → ∀ y ∈ b.take (j + 1), ltP y (x1, x2) = true) := fun h y hy => ((mem_take_succ hjb).1 hy).elim (HL0.out y) fun e => by subst e; exact h
          have e0 := (HG1.out.trans HG2.out).cell d0
          have e1 := (HG1.out.trans HG2.out).cell d1
          clear d0 d1
          generalize b[j] = y at *
          obtain ⟨y1, y2⟩ := y
          dsimp only at e0 e1
          have C1 : Hid (∀ n os, Calls Tryz.prog 75 #[.agg #[.int .i64 y1, .int .i64 y2], .agg #[.int .i64 x1, .int .i64 x2]] (Go.Sort.grow (wr.drewN n) os) fun e w' => e = .returned (.bool (ltP (y1, y2) (x1, x2))) ∧ ∃ q os', w' = Go.Sort.grow ((Go.Sort.grow (wr.drewN n) os).drewN q) os') := fun n os => less_any (y1, y2) (x1, x2) _
          have g0 := fun n os => Go.cell_grown (World.block_lt_of_cell? _ _ e0) e0 n os
          have g1 := fun n os => Go.cell_grown (World.block_lt_of_cell? _ _ e1) e1 n os
          have g2 := fun n os => Go.cell_grown (World.block_lt_of_cell? _ _ p0) p0 n os
          have g3 := fun n os => Go.cell_grown (World.block_lt_of_cell? _ _ p1) p1 n os
          generalize ltP (y1, y2) (x1, x2) = bl at *
          cases bl
          · have HSN2 := Lib.hid (HSN.out rfl)
            clear HSN HLT
            have hq : ∀ W, (binOp .neq 89 (.agg #[.int .i64 y1, .int .i64 y2]) (.agg #[.int .i64 x1, .int .i64 x2])).run Tryz.prog W = .ok (.bool (!decide (((y1, y2) : Pr) = (x1, x2)))) W := fun W => neq_pr (y1, y2) (x1, x2) W
            go_wp2_with fail
            go_quiet_grown (first | (go_at_call 75; refine Calls.grown_of (C1.out _ _)))
            go_upto_region 6 with fail
            have HGF := Lib.hid ((HG1.out.trans HG2.out).trans ⟨nq, osq, rfl⟩)
            have e0' := g0 nq osq
            have e1' := g1 nq osq
            have p0' := g2 nq osq
            have p1' := g3 nq osq
            clear g0 g1 g2 g3 e0 e1 p0 p1 C1
            generalize Go.Sort.grow (wr.drewN nq) osq = W2 at *
            have ez : (((n : Int) + 1) == 0) = false := by simp; omega
            have ez2 : ¬ ((n : Int) + 1 = 0) := by omega
            have hn0 : (0 : Int) < (n : Int) + 1 := by omega
            by_cases hxe : ((y1, y2) : Pr) = (x1, x2)
            · rw [show (!decide (((y1, y2) : Pr) = (x1, x2))) = false by simp [hxe]] at hq
              have HT2 := Lib.hid (HY.out (HYE.out hxe))
              have HL2 := Lib.hid (HL1.out j HL0.out)
              clear hxe
              go_wp2_with fail
              go_quiet (fail)
              go_wp2
              go_roundg (a.length - (k + 1))
              case measure => omega
              case rel => exact ⟨k + 1, j, n + 1, _, c1, by omega, by go_num, rfl, HBT.out, HL2.out, HT2.out, HGF.out.drewN _⟩
            · rw [show (!decide (((y1, y2) : Pr) = (x1, x2))) = true by simp [hxe]] at hq
              have HM := Lib.hid (HSN2.out hxe)
              clear hxe
              have hRf := HGF.out.row HR.out
              have r0 := hRf.cell 0
              have r1 := hRf.cell 1
              have q0 := hRf.frozen 0
              have q1 := hRf.frozen 1
              simp only [List.getElem?_toArray, List.getElem?_cons_zero, List.getElem?_cons_succ] at r0 r1
              clear hRf
              go_wp2_with fail
              go_quiet (fail)
              go_wp2
              (try simp only [Exit.inBlock, Exit.then])
              refine bodyPost_ret (v := .tuple #[.agg #[.int .i64 x1, .int .i64 x2], .bool true]) ?_ rfl ⟨?_, ?_⟩
              · rw [results_cell_tmp rfl]
                go_simp
              · rw [HM.out]
                rfl
              · exact (((HWB.out.trans ((HGF.out.drewN _).below.mono HSZ.out)).setCell (p := ⟨w.heap.size, 0, none⟩) (Nat.le_refl _) _).setCell (p := ⟨w.heap.size, 1, none⟩) (Nat.le_refl _) _)
          · have HL2 := Lib.hid (HLT.out rfl)
            obtain ⟨A2, hite⟩ : ∃ z, (if c1 = 1 then (some ⟨bb, oo, none⟩ : Option Addr) else some ⟨bb, oo + 2, none⟩) = z := ⟨_, rfl⟩
            have HB2 := Lib.hid (HBT.out.next hite.symm)
            have hn0 : (0 : Int) < (n : Int) + 1 := by omega
            go_wp2_with fail
            go_quiet_grown (first | (go_at_call 75; refine Calls.grown_of (C1.out _ _)))
            go_upto_region 5 with fail
            have HGF := Lib.hid (HG2.out.trans ⟨nq, osq, rfl⟩)
            clear g0 g1 g2 g3 e0 e1 p0 p1 C1
            generalize Go.Sort.grow (wr.drewN nq) osq = W2 at *
            go_wp2
            go_roundg n
            case measure => omega
            case rel => exact ⟨j + 1, n, A2, c1 - 1, Nat.le_refl _, rfl, HB2.out, HL2.out, HGF.out⟩
    · have HM : Hid (misP a b = none) := misP_none.2 (by have := HT.out; rw [List.take_of_length_le (by omega)] at this; exact this)
      have hkz : ¬ (k : Int) < (a.length : Int) := by omega
      have hRf := HW.out.row HR.out
      have r0 := hRf.cell 0
      have r1 := hRf.cell 1
      have q0 := hRf.frozen 0
      have q1 := hRf.frozen 1
      simp only [List.getElem?_toArray, List.getElem?_cons_zero, List.getElem?_cons_succ] at r0 r1
      clear hRf
      have HGF := HW
      clear hs1
      go_wp2
      (try simp only [Exit.inBlock, Exit.then])
      refine bodyPost_ret (v := .tuple #[.agg #[.int .i64 0, .int .i64 0], .bool false]) ?_ rfl ⟨?_, ?_⟩
      · rw [results_cell_tmp rfl]
        go_simp
      · rw [HM.out]
        rfl
      · exact (((HWB.out.trans (HW.out.below.mono HSZ.out)).setCell (p := ⟨w.heap.size, 0, none⟩) (Nat.le_refl _) _).setCell (p := ⟨w.heap.size, 1, none⟩) (Nat.le_refl _) _)

end Go.Proofs.YtcoehkphdfejjaaGreat

/-
  Union and Add of the program.
-/
namespace Go.Proofs.YtcoehkphdfejjaaGreat
open Go.RowKit
set_option linter.unusedVariables false

/-- What Union has made of the first k pairs of a and the first j of b. -/
structure UN (a b : List Pr) (k j : Nat) (o : List Pr) : Prop where
  srt : Srt o
  mem : ∀ q, q ∈ o ↔ q ∈ a.take k ∨ q ∈ b.take j
  la : ∀ q ∈ o, ∀ x ∈ a.drop k, ltP q x = true
  lb : ∀ q ∈ o, ∀ y ∈ b.drop j, ltP q y = true
  len : o.length ≤ k + j

theorem UN.start (a b : List Pr) : UN a b 0 0 [] := ⟨Srt.nil, fun q => by simp, fun q h => by simp at h, fun q h => by simp at h, Nat.zero_le _⟩

section
variable {a b o : List Pr} {k j : Nat}

theorem UN.stb (h : UN a b k j o) (ha : Srt a) (hb : Srt b) (hk : k < a.length) (hj : j < b.length) (hlt : ltP b[j] a[k] = true) : UN a b k (j + 1) (o ++ [b[j]]) where
  srt := Srt.snoc h.srt fun y hy => h.lb y hy _ ((drop_head hj).2 (.inl rfl))
  mem q := by rw [List.mem_append, List.mem_singleton, h.mem, mem_take_succ hj, or_assoc]
  la q hq x hx := by
    rcases List.mem_append.1 hq with hq | hq
    · exact h.la q hq x hx
    · rw [List.mem_singleton] at hq
      subst hq
      rcases (drop_head hk).1 hx with e | e
      · rw [e]; exact hlt
      · exact ltP_trans hlt (ha.head_lt hk e)
  lb q hq y hy := by
    rcases List.mem_append.1 hq with hq | hq
    · exact h.lb q hq y ((drop_head hj).2 (.inr hy))
    · rw [List.mem_singleton] at hq
      subst hq
      exact hb.head_lt hj hy
  len := by have := h.len; simp; omega

theorem UN.sta (h : UN a b k j o) (ha : Srt a) (hk : k < a.length) (hlt : ∀ y ∈ b.drop j, ltP a[k] y = true) : UN a b (k + 1) j (o ++ [a[k]]) where
  srt := Srt.snoc h.srt fun y hy => h.la y hy _ ((drop_head hk).2 (.inl rfl))
  mem q := by
    rw [List.mem_append, List.mem_singleton, h.mem, mem_take_succ hk, or_assoc, or_assoc, or_comm (a := q ∈ b.take j)]
  la q hq x hx := by
    rcases List.mem_append.1 hq with hq | hq
    · exact h.la q hq x ((drop_head hk).2 (.inr hx))
    · rw [List.mem_singleton] at hq
      subst hq
      exact ha.head_lt hk hx
  lb q hq y hy := by
    rcases List.mem_append.1 hq with hq | hq
    · exact h.lb q hq y hy
    · rw [List.mem_singleton] at hq
      subst hq
      exact hlt y hy
  len := by have := h.len; simp; omega

theorem UN.stab (h : UN a b k j o) (ha : Srt a) (hb : Srt b) (hk : k < a.length) (hj : j < b.length) (he : b[j] = a[k]) : UN a b (k + 1) (j + 1) (o ++ [a[k]]) where
  srt := Srt.snoc h.srt fun y hy => h.la y hy _ ((drop_head hk).2 (.inl rfl))
  mem q := by
    rw [List.mem_append, List.mem_singleton, h.mem, mem_take_succ hk, mem_take_succ hj, he]
    constructor
    · rintro ((h | h) | h)
      · exact .inl (.inl h)
      · exact .inr (.inl h)
      · exact .inl (.inr h)
    · rintro ((h | h) | (h | h))
      · exact .inl (.inl h)
      · exact .inr h
      · exact .inl (.inr h)
      · exact .inr h
  la q hq x hx := by
    rcases List.mem_append.1 hq with hq | hq
    · exact h.la q hq x ((drop_head hk).2 (.inr hx))
    · rw [List.mem_singleton] at hq
      subst hq
      exact ha.head_lt hk hx
  lb q hq y hy := by
    rcases List.mem_append.1 hq with hq | hq
    · exact h.lb q hq y ((drop_head hj).2 (.inr hy))
    · rw [List.mem_singleton] at hq
      subst hq
      rw [← he]
      exact hb.head_lt hj hy
  len := by have := h.len; simp; omega

theorem UN.end_ (h : UN a b k j o) (hb : Srt b) (hk : a.length ≤ k) : o ++ b.drop j = mkP (a ++ b) := by
  refine mkP_eq ?_ fun q => ?_
  · unfold Srt
    rw [List.pairwise_append]
    exact ⟨h.srt, hb.drop j, h.lb⟩
  · have e := h.mem q
    rw [List.take_of_length_le hk] at e
    have e2 : q ∈ b ↔ q ∈ b.take j ∨ q ∈ b.drop j := by rw [← List.mem_append, List.take_append_drop]
    rw [List.mem_append, List.mem_append, e, e2, or_assoc]

theorem gt_all (hb : Srt b) (hj : j < b.length) {p : Pr} (h1 : ltP b[j] p = false) (h2 : ¬ b[j] = p) : ∀ y ∈ b.drop j, ltP p y = true := fun y hy => by
  have h3 : ltP p b[j] = true := ltP_of_le h1 fun e => h2 e.symm
  rcases (drop_head hj).1 hy with e | e
  · rw [e]; exact h3
  · exact ltP_trans h3 (hb.head_lt hj e)

end

/-- An own list, and beside it a block with the pair at hand. -/
structure PX (w : World) (v : Value) (l : List Pr) (pb : Nat) (x1 x2 : Int) (wr : World) : Prop where
  pl : PL w v l wr
  row : Row wr pb 89 #[.int .i64 x1, .int .i64 x2]
  ne : ∀ k, v.ownBlock = some k → k ≠ pb

section
variable {w wr w' : World} {v v' : Value} {l : List Pr} {pb : Nat} {x1 x2 : Int}

theorem PX.of (h : PL w v l wr) (x1 x2 : Int) : PX w v l wr.heap.size x1 x2 (wr.alloc (prObj x1 x2)) :=
  ⟨h.alloc _, Row.new wr _ _, fun k hk e => by have := (ownS_lt h.own k hk).2; omega⟩

theorem PX.grew (h : PX w v l pb x1 x2 wr) (hg : Grew wr w') : PX w v l pb x1 x2 w' := ⟨h.pl.grew hg, hg.row h.row, h.ne⟩

theorem PX.push (h : PX w v l pb x1 x2 wr) (y1 y2 : Int) {n : Nat} (hn : n = l.length)
    (ho : w'.ownsRow w.heap.size 89 2 v' (n + 1) (prs l ++ prs [(y1, y2)])) (hg : (wr.alloc (prObj y1 y2)).grownBy w' v.ownBlock) (hv : v'.ownBlock = v.ownBlock ∨ v'.ownBlock = some (wr.heap.size + 1)) : PX w v' (l ++ [(y1, y2)]) pb x1 x2 w' := by
  have hlt := h.row.lt
  refine ⟨h.pl.push y1 y2 hn ho hg, ?_, fun k hk e => ?_⟩
  · refine (hg.block pb (by simp; omega) fun e => h.ne pb e.symm rfl).trans (h.row.alloc _)
  · rcases hv with hv | hv
    · exact h.ne k (hv.symm.trans hk) e
    · rw [hv] at hk
      simp at hk
      omega

theorem PX.cells (h : PX w v l pb x1 x2 wr) : wr.cell? ⟨pb, 0, none⟩ = some (.int .i64 x1) ∧ wr.cell? ⟨pb, 1, none⟩ = some (.int .i64 x2) := ⟨h.row.cell 0, h.row.cell 1⟩

end

theorem make_pr (n : Nat) (hn : n ≤ 4000000) : ∃ Z : Array Value, Z.size = n * 2 ∧ ∀ w, (Instr.makeSlice 63 (.int .i64 0) (.int .i64 (n : Int))).run Tryz.prog w = .ok (.slice (some ⟨w.heap.size, 0, none⟩) 0 n) (w.alloc (.cells Z 89)) := by
  obtain ⟨i, hi, hz, hs, hb⟩ := info_pr
  refine ⟨madeCells (Value.agg #[.int .i64 0, .int .i64 0]).cells (n * i.size), ?_, fun w => ?_⟩
  · rw [size_madeCells, hs]
  · have := run_make (P := Tryz.prog) w _ _ i _ Tryz.underlying63 hi hz .i64 .i64 0 n (by decide) (by omega) (by rw [hb]; omega) (by omega)
    simpa using this

theorem PL.make (w : World) {n : Nat} {Z : Array Value} (hZ : Z.size = n * 2) (hn : n ≤ 4000000) : PL w (.slice (some ⟨w.heap.size, 0, none⟩) 0 n) [] (w.alloc (.cells Z 89)) :=
  ⟨⟨by simp [prs], .inr ⟨w.heap.size, n, Z, rfl, Nat.le_refl _, heap_alloc_new w _, Nat.zero_le _, by unfold maxLen; omega, hZ, by simp [prs]⟩⟩, (Below.refl _ _).alloc (Nat.le_refl _) _⟩

set_option maxRecDepth 100000 in
set_option maxHeartbeats 8000000 in
theorem punion_any (B : Nat) (A A' : Option Addr) (a b : List Pr) (c c' : Nat) (w : World) (hs : Sees w B A (prs a)) (hs' : Sees w B A' (prs b)) (hB : B ≤ w.heap.size) (hm : a.length ≤ 1000000) (hm' : b.length ≤ 1000000) (hc : b.length ≤ c') (hcm : c' ≤ maxLen) (hsa : Srt a) (hsb : Srt b) :
    Calls Tryz.prog 119 #[.slice A a.length c, .slice A' b.length c'] w fun e w' => ∃ v, e = .returned v ∧ PL w v (mkP (a ++ b)) w' := by
  have mixed : Tryz.prog.follows .mixedOrders = true := by kernel_rfl
  have hG := guard_pr
  obtain ⟨i0, hi0, hz0, hz1, hz2⟩ := info_pr
  obtain ⟨Z, hZ, hmk⟩ := make_pr (a.length + b.length) (by omega)
  rw [Int.natCast_add] at hmk
  have HPZ : Hid (PL w (.slice (some ⟨w.heap.size, 0, none⟩) 0 (a.length + b.length)) [] (w.alloc (.cells Z 89))) := PL.make w hZ (by omega)
  have HSA := Lib.hid hsa
  have HSB := Lib.hid hsb
  have HB0 : Hid (BAt w B b 0 b.length A' c') := ⟨rfl, hc, hcm, hs'⟩
  clear hs' hsa hsb hc hcm hZ
  go_enter Tryz.func119, Tryz.ntmps119
  go_wp2
  generalize (w.alloc (.cells Z 89)) = W0 at *
  go_loopg [1, 5, 16] a.length (fun g v1 v5 v16 wr => ∃ (k j n : Nat) (A1 : Option Addr) (c1 : Nat) (o : List Pr), k + g = a.length ∧ v16 = .int .i64 k ∧ v1 = .slice A1 n c1 ∧ Hid (BAt w B b j n A1 c1) ∧ Hid (UN a b k j o) ∧ Hid (PL w v5 o wr))
  case atStart => exact ⟨0, 0, b.length, A', c', [], by omega, by go_num, rfl, HB0.out, UN.start a b, HPZ.out⟩
  case round =>
    clear HB0 HPZ
    obtain ⟨k, j, n, A1, c1, o, hg, rfl, rfl, HBT, HU, HP⟩ := hrel
    by_cases hlt : k < a.length
    · obtain ⟨b1, o1, rfl, hb, hc0, hc1⟩ := sees_pair hs hlt
      have f0 := (HP.out.blw.cell (p := ⟨b1, _, none⟩) (by show b1 < _; omega)).trans hc0
      have f1 := (HP.out.blw.cell (p := ⟨b1, _, none⟩) (by show b1 < _; omega)).trans hc1
      have UB := Lib.hid fun (m : Nat) (o : List Pr) (h : UN a b k m o) (hj : m < b.length) (hl : ltP b[m] a[k] = true) => h.stb HSA.out HSB.out hlt hj hl
      have UA := Lib.hid fun (m : Nat) (o : List Pr) (h : UN a b k m o) (hl : ∀ y ∈ b.drop m, ltP a[k] y = true) => h.sta HSA.out hlt hl
      have UAB := Lib.hid fun (m : Nat) (o : List Pr) (h : UN a b k m o) (hj : m < b.length) (hl : b[m] = a[k]) => h.stab HSA.out HSB.out hlt hj hl
      have hkz : (k : Int) < (a.length : Int) := by omega
      generalize a[k] = x at *
      obtain ⟨x1, x2⟩ := x
      dsimp only at f0 f1
      clear hc0 hc1 hs
      go_upto_region 5 with fail
      have HX := Lib.hid (PX.of HP.out x1 x2)
      clear f0 f1 HP
      generalize (wr.alloc (.cells #[.int .i64 x1, .int .i64 x2] 89)) = W1 at *
      generalize wr.heap.size = pb at *
      go_loopg [1, 5] n (fun g2 v1 v5 wr => ∃ (j n : Nat) (A1 : Option Addr) (c1 : Nat) (o : List Pr), n ≤ g2 ∧ v1 = .slice A1 n c1 ∧ Hid (BAt w B b j n A1 c1) ∧ Hid (UN a b k j o) ∧ Hid (PX w v5 o pb x1 x2 wr))
      case atStart => exact ⟨j, n, A1, c1, o, Nat.le_refl _, rfl, HBT.out, HU.out, HX.out⟩
      case round =>
        clear HBT HU HX
        obtain ⟨j, n, A1, c1, o, hn2, rfl, HBT, HU, HX⟩ := hrel
        have hol : o.length ≤ 2000000 := by have := HU.out.len; have := HBT.out.len; omega
        obtain ⟨p0, p1⟩ := HX.out.cells
        rcases n with _ | n
        · have HU2 := Lib.hid (UA.out j o HU.out fun y hy => by
            have hl := HBT.out.len
            rw [List.drop_of_length_le (by omega)] at hy
            simp at hy)
          go_wp2_with fail
          go_quiet (fail)
          go_upto_region 8 with fail
          have HX2 := Lib.hid (HX.out.grew ((Grew.refl wr).drewN nq))
          clear p0 p1
          generalize wr.drewN nq = W2 at *
          obtain ⟨p0, p1⟩ := HX2.out.cells
          go_wp2_with fail
          go_quiet (fail)
          go_upto_region 10 with fail
          have HX8 := Lib.hid (HX2.out.grew ((Grew.refl W2).drewN nq))
          clear p0 p1
          generalize (W2).drewN nq = W8 at *
          obtain ⟨p0, p1⟩ := HX8.out.cells
          have hown := (HX8.out.pl.alloc (prObj x1 x2)).own
          have hnew := new_sees W8 x1 x2
          go_wp2_with (at_builtin; refine wpList_append_any _ rfl (.tmp 50) (.tmp 52) 63 rfl _ 89 i0 (.agg #[.int .i64 0, .int .i64 0]) 2 16 Tryz.underlying63 hi0 hz0 hz1 hz2 rfl (by decide) _ _ _ rfl hown (W8.heap.size + 1) _ 1 1 _ rfl hnew rfl (prs_one _) ?c1 ?c2 ?c3 ?_)
          case c1 => have := hol; unfold maxLen; omega
          case c2 => have := hol; omega
          case c3 => have := HX8.out.pl.blw.size; simp; omega
          intro v9 W9 ho2 hg2 hb2
          have HX9 := Lib.hid (HX8.out.push x1 x2 (by first | rfl | simp) ho2 hg2 hb2)
          clear ho2 hg2 hb2 hown hnew
          go_wp2
          go_roundg (a.length - (k + 1))
          case measure => omega
          case rel => exact ⟨k + 1, j, 0, _, c1, o ++ [(x1, x2)], by omega, by go_num, rfl, HBT.out, HU2.out, HX9.out.pl⟩
        · obtain ⟨bb, oo, rfl, hbb, d0, d1⟩ := HBT.out.get (by omega)
          have hjb : j < b.length := by have := HBT.out.len; omega
          have UB2 := Lib.hid fun h => UB.out j o HU.out hjb h
          have UAB2 := Lib.hid fun h => UAB.out j o HU.out hjb h
          have UA2 := Lib.hid fun h1 h2 => UA.out j o HU.out (gt_all HSB.out hjb h1 h2)
          have CF : Hid (∀ W, Below w.heap.size w W → W.cell? ⟨bb, oo, none⟩ = some (.int .i64 b[j].1) ∧ W.cell? ⟨bb, oo + 1, none⟩ = some (.int .i64 b[j].2)) := fun W h => ⟨(h.cell (p := ⟨bb, _, none⟩) (by show bb < _; omega)).trans d0, (h.cell (p := ⟨bb, _, none⟩) (by show bb < _; omega)).trans d1⟩
          clear d0 d1
          generalize b[j] = y at *
          obtain ⟨y1, y2⟩ := y
          dsimp only at CF
          obtain ⟨e0, e1⟩ := CF.out _ HX.out.pl.blw
          have C1 : Hid (∀ n os, Calls Tryz.prog 75 #[.agg #[.int .i64 y1, .int .i64 y2], .agg #[.int .i64 x1, .int .i64 x2]] (Go.Sort.grow (wr.drewN n) os) fun e w' => e = .returned (.bool (ltP (y1, y2) (x1, x2))) ∧ ∃ q os', w' = Go.Sort.grow ((Go.Sort.grow (wr.drewN n) os).drewN q) os') := fun n os => less_any (y1, y2) (x1, x2) _
          have g0 := fun n os => Go.cell_grown (World.block_lt_of_cell? _ _ e0) e0 n os
          have g1 := fun n os => Go.cell_grown (World.block_lt_of_cell? _ _ e1) e1 n os
          have g2 := fun n os => Go.cell_grown (World.block_lt_of_cell? _ _ p0) p0 n os
          have g3 := fun n os => Go.cell_grown (World.block_lt_of_cell? _ _ p1) p1 n os
          clear e0 e1 p0 p1
          generalize hbl : ltP (y1, y2) (x1, x2) = bl at C1
          have hn0 : (0 : Int) < (n : Int) + 1 := by omega
          cases bl
          · have hq : ∀ W, (binOp .eql 89 (.agg #[.int .i64 y1, .int .i64 y2]) (.agg #[.int .i64 x1, .int .i64 x2])).run Tryz.prog W = .ok (.bool (decide (((y1, y2) : Pr) = (x1, x2)))) W := fun W => eq_pr (y1, y2) (x1, x2) W
            have UA3 := Lib.hid (UA2.out hbl)
            clear UB2 UA2 hbl
            go_wp2_with fail
            go_quiet_grown (first | (go_at_call 75; refine Calls.grown_of (C1.out _ _)))
            go_upto_region 8 with fail
            have HX2 := Lib.hid (HX.out.grew ⟨nq, osq, rfl⟩)
            clear g0 g1 g2 g3 C1
            generalize Go.Sort.grow (wr.drewN nq) osq = W2 at *
            obtain ⟨p0, p1⟩ := HX2.out.cells
            obtain ⟨e0, e1⟩ := CF.out _ HX2.out.pl.blw
            by_cases hxe : ((y1, y2) : Pr) = (x1, x2)
            · rw [show (decide (((y1, y2) : Pr) = (x1, x2))) = true by simp [hxe]] at hq
              have HU2 := Lib.hid (UAB2.out hxe)
              obtain ⟨A2, hite⟩ : ∃ z, (if c1 = 1 then (some ⟨bb, oo, none⟩ : Option Addr) else some ⟨bb, oo + 2, none⟩) = z := ⟨_, rfl⟩
              have HBT2 := Lib.hid (HBT.out.next hite.symm)
              clear hxe
              go_wp2_with fail
              go_quiet (fail)
              go_upto_region 10 with fail
              have HX8 := Lib.hid (HX2.out.grew ((Grew.refl W2).drewN nq))
              clear p0 p1
              generalize (W2).drewN nq = W8 at *
              obtain ⟨p0, p1⟩ := HX8.out.cells
              have hown := (HX8.out.pl.alloc (prObj x1 x2)).own
              have hnew := new_sees W8 x1 x2
              go_wp2_with (at_builtin; refine wpList_append_any _ rfl (.tmp 50) (.tmp 52) 63 rfl _ 89 i0 (.agg #[.int .i64 0, .int .i64 0]) 2 16 Tryz.underlying63 hi0 hz0 hz1 hz2 rfl (by decide) _ _ _ rfl hown (W8.heap.size + 1) _ 1 1 _ rfl hnew rfl (prs_one _) ?c1 ?c2 ?c3 ?_)
              case c1 => have := hol; unfold maxLen; omega
              case c2 => have := hol; omega
              case c3 => have := HX8.out.pl.blw.size; simp; omega
              intro v9 W9 ho2 hg2 hb2
              have HX9 := Lib.hid (HX8.out.push x1 x2 (by first | rfl | simp) ho2 hg2 hb2)
              clear ho2 hg2 hb2 hown hnew
              go_wp2
              go_roundg (a.length - (k + 1))
              case measure => omega
              case rel => exact ⟨k + 1, j + 1, n, A2, c1 - 1, o ++ [(x1, x2)], by omega, by go_num, rfl, HBT2.out, HU2.out, HX9.out.pl⟩
            · rw [show (decide (((y1, y2) : Pr) = (x1, x2))) = false by simp [hxe]] at hq
              have HU2 := Lib.hid (UA3.out hxe)
              clear hxe
              go_wp2_with fail
              go_quiet (fail)
              go_upto_region 10 with fail
              have HX8 := Lib.hid (HX2.out.grew ((Grew.refl W2).drewN nq))
              clear p0 p1
              generalize (W2).drewN nq = W8 at *
              obtain ⟨p0, p1⟩ := HX8.out.cells
              have hown := (HX8.out.pl.alloc (prObj x1 x2)).own
              have hnew := new_sees W8 x1 x2
              go_wp2_with (at_builtin; refine wpList_append_any _ rfl (.tmp 50) (.tmp 52) 63 rfl _ 89 i0 (.agg #[.int .i64 0, .int .i64 0]) 2 16 Tryz.underlying63 hi0 hz0 hz1 hz2 rfl (by decide) _ _ _ rfl hown (W8.heap.size + 1) _ 1 1 _ rfl hnew rfl (prs_one _) ?c1 ?c2 ?c3 ?_)
              case c1 => have := hol; unfold maxLen; omega
              case c2 => have := hol; omega
              case c3 => have := HX8.out.pl.blw.size; simp; omega
              intro v9 W9 ho2 hg2 hb2
              have HX9 := Lib.hid (HX8.out.push x1 x2 (by first | rfl | simp) ho2 hg2 hb2)
              clear ho2 hg2 hb2 hown hnew
              go_wp2
              go_roundg (a.length - (k + 1))
              case measure => omega
              case rel => exact ⟨k + 1, j, n + 1, _, c1, o ++ [(x1, x2)], by omega, by go_num, rfl, HBT.out, HU2.out, HX9.out.pl⟩
          · have HU2 := Lib.hid (UB2.out hbl)
            clear UB2 UA2 hbl
            obtain ⟨A2, hite⟩ : ∃ z, (if c1 = 1 then (some ⟨bb, oo, none⟩ : Option Addr) else some ⟨bb, oo + 2, none⟩) = z := ⟨_, rfl⟩
            have HBT2 := Lib.hid (HBT.out.next hite.symm)
            go_wp2_with fail
            go_quiet_grown (first | (go_at_call 75; refine Calls.grown_of (C1.out _ _)))
            go_upto_region 6 with fail
            have HX2 := Lib.hid (HX.out.grew ⟨nq, osq, rfl⟩)
            clear g0 g1 g2 g3 C1
            generalize Go.Sort.grow (wr.drewN nq) osq = W2 at *
            obtain ⟨e0, e1⟩ := CF.out _ HX2.out.pl.blw
            have hown := (HX2.out.pl.alloc (prObj y1 y2)).own
            have hnew := new_sees W2 y1 y2
            go_wp2_with (at_builtin; refine wpList_append_any _ rfl (.tmp 30) (.tmp 34) 63 rfl _ 89 i0 (.agg #[.int .i64 0, .int .i64 0]) 2 16 Tryz.underlying63 hi0 hz0 hz1 hz2 rfl (by decide) _ _ _ rfl hown (W2.heap.size + 1) _ 1 1 _ rfl hnew rfl (prs_one _) ?c1 ?c2 ?c3 ?_)
            case c1 => have := hol; unfold maxLen; omega
            case c2 => have := hol; omega
            case c3 => have := HX2.out.pl.blw.size; simp; omega
            intro v3 W3 ho2 hg2 hb2
            have HX3 := Lib.hid (HX2.out.push y1 y2 (by first | rfl | simp) ho2 hg2 hb2)
            clear ho2 hg2 hb2 hown hnew
            go_wp2
            go_roundg n
            case measure => omega
            case rel => exact ⟨j + 1, n, A2, c1 - 1, o ++ [(y1, y2)], Nat.le_refl _, rfl, HBT2.out, HU2.out, HX3.out⟩
    · have HE := Lib.hid (HU.out.end_ HSB.out (by omega))
      have hkz : ¬ (k : Int) < (a.length : Int) := by omega
      have hol : o.length ≤ 2000000 := by have := HU.out.len; have := HBT.out.len; omega
      have hn3 : n ≤ 1000000 := by have := HBT.out.len; omega
      have hown := HP.out.own
      have hr := (HBT.out.see.below (HP.out.blw.mono hB)).more (Nat.le_trans hB HP.out.blw.size)
      have hl : (prs (b.drop j)).length = n * 2 := by rw [prs_length, List.length_drop]; have := HBT.out.len; omega
      clear hs
      go_wp2_with (at_builtin; refine wpList_append_any _ rfl (.tmp 55) (.tmp 56) 63 rfl _ 89 i0 (.agg #[.int .i64 0, .int .i64 0]) 2 16 Tryz.underlying63 hi0 hz0 hz1 hz2 rfl (by decide) _ _ _ rfl hown wr.heap.size _ n c1 _ rfl hr hl (prs_one _) ?c1 ?c2 ?c3 ?_)
      case c1 => unfold maxLen; omega
      case c2 => omega
      case c3 => exact HP.out.blw.size
      intro v2 W2 ho2 hg2 hb2
      have HP2 : Hid (PL w v2 (o ++ b.drop j) W2) := by
        refine ⟨?_, HP.out.blw.grown hg2 HP.out.blw.size fun k hk => (ownS_lt HP.out.own k hk).1⟩
        rw [prs_append, List.length_append, List.length_drop, show b.length - j = n by have := HBT.out.len; omega]
        exact ho2
      clear hown hr hl ho2 hg2 hb2
      go_wp2
      go_ret
      rw [← HE.out]
      exact ⟨_, rfl, HP2.out⟩

set_option maxRecDepth 100000 in
set_option maxHeartbeats 4000000 in
theorem padd_any (B : Nat) (A : Option Addr) (a : List Pr) (c : Nat) (p : Pr) (w : World) (hs : Sees w B A (prs a)) (hB : B ≤ w.heap.size) (hm : a.length ≤ 1000000) (hsa : Srt a) :
    Calls Tryz.prog 112 #[.slice A a.length c, .agg #[.int .i64 p.1, .int .i64 p.2]] w fun e w' => ∃ v, e = .returned v ∧ PL w v (mkP (a ++ [p])) w' := by
  obtain ⟨p1, p2⟩ := p
  dsimp only
  have hA := (Row.new w 89 #[.int .i64 p1, .int .i64 p2])
  have hb2 : Below w.heap.size w ((w.alloc (prObj p1 p2)).alloc (prObj p1 p2)) := ((Below.refl w.heap.size w).alloc (Nat.le_refl _) _).alloc (by simp) _
  have C1 : Hid (Calls Tryz.prog 119 #[.slice A a.length c, .slice (some ⟨w.heap.size + 1, 0, none⟩) 1 1] ((w.alloc (prObj p1 p2)).alloc (prObj p1 p2)) fun e w' => ∃ v, e = .returned v ∧ PL ((w.alloc (prObj p1 p2)).alloc (prObj p1 p2)) v (mkP (a ++ [(p1, p2)])) w') := by
    have h1 : Sees ((w.alloc (prObj p1 p2)).alloc (prObj p1 p2)) (w.heap.size + 2) (some ⟨w.heap.size + 1, 0, none⟩) (prs [(p1, p2)]) := by
      have := new_sees (w.alloc (prObj p1 p2)) p1 p2
      rw [show (w.alloc (prObj p1 p2)).heap.size = w.heap.size + 1 by simp] at this
      exact this
    exact punion_any (w.heap.size + 2) A (some ⟨w.heap.size + 1, 0, none⟩) a [(p1, p2)] c 1 _ ((hs.below (hb2.mono hB)).more (by omega)) h1 (by simp) hm (by simp) (by simp) (by unfold maxLen; omega) hsa (List.pairwise_singleton _ _)
  have HB2 := Lib.hid hb2
  clear hs hb2
  have a0 := hA.cell 0
  have a1 := hA.cell 1
  simp only [List.getElem?_toArray, List.getElem?_cons_zero, List.getElem?_cons_succ] at a0 a1
  clear hA
  go_enter Tryz.func112, Tryz.ntmps112
  go_wp2_with fail
  refine C1.out.mono ?_
  rintro e W1 ⟨v, rfl, hP⟩
  have HP : Hid (PL w v (mkP (a ++ [(p1, p2)])) W1) := hP.base HB2.out
  clear hP
  go_wp2
  go_ret
  exact ⟨_, rfl, HP.out⟩

end Go.Proofs.YtcoehkphdfejjaaGreat

/-
  DropV and DropL of the program.
-/
namespace Go.Proofs.YtcoehkphdfejjaaGreat
open Go.RowKit
set_option linter.unusedVariables false

set_option maxRecDepth 100000 in
set_option maxHeartbeats 4000000 in
theorem drop_any (f : Pr → Bool) (g pb : Nat) (B : Nat) (A : Option Addr) (l : List Pr) (c : Nat) (w : World) (hs : Sees w B A (prs l)) (hB : B ≤ w.heap.size) (hm : l.length ≤ 1000000)
    (hK : ∀ args W, (callFunc g args).run Tryz.prog W = .ok (.enter g args) W)
    (hf : ∀ (x : Pr) W, Below w.heap.size w W → Calls Tryz.prog g #[.agg #[.int .i64 x.1, .int .i64 x.2], .pointer (some ⟨pb, 0, none⟩)] W fun e w' => e = .returned (.bool (f x)) ∧ Grew W w') :
    Calls Tryz.prog 120 #[.slice A l.length c, .func (.func g) #[] #[.pointer (some ⟨pb, 0, none⟩)]] w fun e w' => ∃ v, e = .returned v ∧ PL w v (l.filter fun p => !f p) w' := by
  obtain ⟨i0, hi0, hz0, hz1, hz2⟩ := info_pr
  obtain ⟨Z, hZ, hmk⟩ := make_pr l.length (by omega)
  have HPZ : Hid (PL w (.slice (some ⟨w.heap.size, 0, none⟩) 0 l.length) [] (w.alloc (.cells Z 89))) := PL.make w hZ (by omega)
  have HF := Lib.hid hf
  clear hZ hf
  go_enter Tryz.func120, Tryz.ntmps120
  go_wp2
  generalize (w.alloc (.cells Z 89)) = W0 at *
  go_loopg [5, 13] l.length (fun g v5 v13 wr => ∃ k : Nat, k + g = l.length ∧ v13 = .int .i64 k ∧ Hid (PL w v5 ((l.take k).filter fun p => !f p) wr))
  case atStart => exact ⟨0, by omega, by go_num, HPZ.out⟩
  case round =>
    clear HPZ
    obtain ⟨k, hg, rfl, HP⟩ := hrel
    by_cases hlt : k < l.length
    · have hol : ((l.take k).filter fun p => !f p).length ≤ 1000000 := Nat.le_trans (List.length_filter_le _ _) (by simp; omega)
      have HE : Hid ((l.take (k + 1)).filter (fun p => !f p) = (l.take k).filter (fun p => !f p) ++ if f l[k] then [] else [l[k]]) := by
        show _ = _
        rw [List.take_succ_eq_append_getElem hlt, List.filter_append]
        cases h : f l[k] <;> simp [h]
      generalize (l.take k).filter (fun p => !f p) = o at *
      obtain ⟨b1, o1, rfl, hb, hc0, hc1⟩ := sees_pair hs hlt
      have f0 := (HP.out.blw.cell (p := ⟨b1, _, none⟩) (by show b1 < _; omega)).trans hc0
      have f1 := (HP.out.blw.cell (p := ⟨b1, _, none⟩) (by show b1 < _; omega)).trans hc1
      have hkz : (k : Int) < (l.length : Int) := by omega
      generalize l[k] = x at *
      obtain ⟨x1, x2⟩ := x
      dsimp only at f0 f1
      clear hc0 hc1 hs
      go_upto_region 5 with fail
      have HX := Lib.hid (PX.of HP.out x1 x2)
      clear f0 f1 HP
      generalize (wr.alloc (.cells #[.int .i64 x1, .int .i64 x2] 89)) = W1 at *
      generalize wr.heap.size = qb at *
      obtain ⟨p0, p1⟩ := HX.out.cells
      have C1 := Lib.hid (HF.out (x1, x2) W1 HX.out.pl.blw)
      dsimp only at C1
      generalize f (x1, x2) = bb at *
      cases bb
      · go_wp2_with fail
        refine C1.out.mono ?_
        rintro e W2 ⟨rfl, hG⟩
        have HX2 := Lib.hid (HX.out.grew hG)
        clear p0 p1 hG
        obtain ⟨p0, p1⟩ := HX2.out.cells
        go_upto_region 6 with fail
        have HP2 := Lib.hid HX2.out.pl
        have hown := (HP2.out.alloc (prObj x1 x2)).own
        have hnew := new_sees W2 x1 x2
        go_wp2_with (at_builtin; refine wpList_append_any _ rfl (.tmp 21) (.tmp 23) 63 rfl _ 89 i0 (.agg #[.int .i64 0, .int .i64 0]) 2 16 Tryz.underlying63 hi0 hz0 hz1 hz2 rfl (by decide) _ _ _ rfl hown (W2.heap.size + 1) _ 1 1 _ rfl hnew rfl (prs_one _) ?c1 ?c2 ?c3 ?_)
        case c1 => have := hol; unfold maxLen; omega
        case c2 => have := hol; omega
        case c3 => have := HP2.out.blw.size; simp; omega
        intro v3 W3 ho2 hg2 hb2
        have HP3 := Lib.hid (HP2.out.push x1 x2 (by first | rfl | simp) ho2 hg2)
        clear ho2 hg2 hb2 hown hnew
        go_wp2
        go_roundg (l.length - (k + 1))
        case measure => omega
        case rel => exact ⟨k + 1, by omega, by go_num, by show PL _ _ _ _; rw [HE.out]; exact HP3.out⟩
      · go_wp2_with fail
        refine C1.out.mono ?_
        rintro e W2 ⟨rfl, hG⟩
        have HX2 := Lib.hid (HX.out.grew hG)
        clear p0 p1 hG
        go_wp2
        go_roundg (l.length - (k + 1))
        case measure => omega
        case rel => exact ⟨k + 1, by omega, by go_num, by show PL _ _ _ _; rw [HE.out]; simpa using HX2.out.pl⟩
    · have hk2 : l.take k = l := List.take_of_length_le (by omega)
      rw [hk2] at HP
      have hkz : ¬ (k : Int) < (l.length : Int) := by omega
      clear hk2 hs
      go_wp2
      go_ret
      exact ⟨_, rfl, HP.out⟩

set_option maxRecDepth 100000 in
set_option maxHeartbeats 4000000 in
theorem dropV_any (B : Nat) (A : Option Addr) (l : List Pr) (c : Nat) (v : Int) (w : World) (hs : Sees w B A (prs l)) (hB : B ≤ w.heap.size) (hm : l.length ≤ 1000000) :
    Calls Tryz.prog 107 #[.slice A l.length c, .int .i64 v] w fun e w' => ∃ u, e = .returned u ∧ PL w u (l.filter fun p => !(p.1 == v)) w' := by
  have hA := (Row.new w 3 #[.int .i64 v])
  have hb := (Below.refl w.heap.size w).alloc (Nat.le_refl _) (.cells #[.int .i64 v] 3)
  have C1 : Hid (Calls Tryz.prog 120 #[.slice A l.length c, .func (.func 121) #[] #[.pointer (some ⟨w.heap.size, 0, none⟩)]] (w.alloc (.cells #[.int .i64 v] 3)) fun e w' => ∃ u, e = .returned u ∧ PL (w.alloc (.cells #[.int .i64 v] 3)) u (l.filter fun p => !(p.1 == v)) w') := by
    refine drop_any (fun p => p.1 == v) 121 w.heap.size B A l c _ (hs.alloc hB _) (by simp; omega) hm (fun args W => enters_of Tryz.func121 (by kernel_rfl) rfl args W) fun x W hW => ?_
    obtain ⟨x1, x2⟩ := x
    dsimp only
    have a0 := (hW.cell (p := ⟨w.heap.size, 0, none⟩) (by simp)).trans (hA.cell 0)
    simp only [List.getElem?_toArray, List.getElem?_cons_zero] at a0
    have a1 := World.block_lt_of_cell? _ _ a0
    have HG := Lib.hid ((Grew.refl W).alloc (prObj x1 x2))
    clear hW hs hA hb
    go_enter Tryz.func121, Tryz.ntmps121
    go_wp2
    go_ret
    exact ⟨rfl, HG.out⟩
  have HB := Lib.hid hb
  clear hs hA hb
  go_enter Tryz.func107, Tryz.ntmps107
  go_wp2_with fail
  refine C1.out.mono ?_
  rintro e W1 ⟨u, rfl, hP⟩
  have HP := Lib.hid (hP.base HB.out)
  clear hP
  go_wp2
  go_ret
  exact ⟨_, rfl, HP.out⟩

set_option maxRecDepth 100000 in
set_option maxHeartbeats 4000000 in
theorem dropL_any (B : Nat) (A : Option Addr) (l : List Pr) (c : Nat) (v : Int) (w : World) (hs : Sees w B A (prs l)) (hB : B ≤ w.heap.size) (hm : l.length ≤ 1000000) :
    Calls Tryz.prog 109 #[.slice A l.length c, .int .i64 v] w fun e w' => ∃ u, e = .returned u ∧ PL w u (l.filter fun p => !(p.2 == v)) w' := by
  have hA := (Row.new w 54 #[.int .i64 v])
  have hb := (Below.refl w.heap.size w).alloc (Nat.le_refl _) (.cells #[.int .i64 v] 54)
  have C1 : Hid (Calls Tryz.prog 120 #[.slice A l.length c, .func (.func 122) #[] #[.pointer (some ⟨w.heap.size, 0, none⟩)]] (w.alloc (.cells #[.int .i64 v] 54)) fun e w' => ∃ u, e = .returned u ∧ PL (w.alloc (.cells #[.int .i64 v] 54)) u (l.filter fun p => !(p.2 == v)) w') := by
    refine drop_any (fun p => p.2 == v) 122 w.heap.size B A l c _ (hs.alloc hB _) (by simp; omega) hm (fun args W => enters_of Tryz.func122 (by kernel_rfl) rfl args W) fun x W hW => ?_
    obtain ⟨x1, x2⟩ := x
    dsimp only
    have a0 := (hW.cell (p := ⟨w.heap.size, 0, none⟩) (by simp)).trans (hA.cell 0)
    simp only [List.getElem?_toArray, List.getElem?_cons_zero] at a0
    have a1 := World.block_lt_of_cell? _ _ a0
    have HG := Lib.hid ((Grew.refl W).alloc (prObj x1 x2))
    clear hW hs hA hb
    go_enter Tryz.func122, Tryz.ntmps122
    go_wp2
    go_ret
    exact ⟨rfl, HG.out⟩
  have HB := Lib.hid hb
  clear hs hA hb
  go_enter Tryz.func109, Tryz.ntmps109
  go_wp2_with fail
  refine C1.out.mono ?_
  rintro e W1 ⟨u, rfl, hP⟩
  have HP := Lib.hid (hP.base HB.out)
  clear hP
  go_wp2
  go_ret
  exact ⟨_, rfl, HP.out⟩

end Go.Proofs.YtcoehkphdfejjaaGreat

/-
  The contracts of layer 11 in the form that the statements' walks use: lists that are seen, by name.
-/
namespace Go.Proofs.YtcoehkphdfejjaaGreat
open Go.RowKit
set_option linter.unusedVariables false

/-- A list of pairs that is seen, and is short. -/
structure LS (w : World) (A : Option Addr) (n c : Nat) (l : List Pr) : Prop where
  len : l.length = n
  cap : n ≤ c
  cmx : c ≤ maxLen
  see : Sees w w.heap.size A (prs l)
  sm : n ≤ 1000

/-- A new list of pairs. -/
def PV (w : World) (l : List Pr) (e : Ending) (w' : World) : Prop := ∃ A n c, e = .returned (.slice A n c) ∧ PL w (.slice A n c) l w' ∧ LS w' A n c l

theorem PL.clone {w w' : World} {v : Value} {l : List Pr} {m : Nat} (hm : l.length = m)
    (ho : w'.ownsRow w.heap.size 89 2 v m (prs l)) (hg : (w.alloc (.cells #[] 89)).grownBy w' (Value.slice (some ⟨w.heap.size, 0, none⟩) 0 0).ownBlock) : PL w v l w' := by
  refine ⟨by rw [hm]; exact ho, ((Below.refl _ _).alloc (Nat.le_refl _) _).grown hg (by simp) (fun k hk => by simp [Value.ownBlock] at hk; omega)⟩

theorem PL.join {w wr w' : World} {v v' : Value} {l r : List Pr} {n m : Nat} (h : PL w v l wr) (hn : l.length = n) (hm : r.length = m)
    (ho : w'.ownsRow w.heap.size 89 2 v' (n + m) (prs l ++ prs r)) (hg : wr.grownBy w' v.ownBlock) : PL w v' (l ++ r) w' := by
  subst hn hm
  exact ⟨by rw [prs_append, List.length_append]; exact ho, h.blw.grown hg h.blw.size fun k hk => (ownS_lt h.own k hk).1⟩

section
variable {w w' : World} {A A' : Option Addr} {n c m c' : Nat} {l r : List Pr}

theorem LS.below (h : LS w A n c l) (hb : Below w.heap.size w w') : LS w' A n c l := ⟨h.len, h.cap, h.cmx, (h.see.below hb).more hb.size, h.sm⟩

theorem LS.big (h : LS w A n c l) : l.length ≤ 1000000 := by have := h.len; have := h.sm; omega

theorem LS.ml (h : LS w A n c l) : l.length ≤ maxLen := by have := h.big; unfold maxLen; omega

theorem PL.ls (h : PL w (.slice A n c) l w') (hs : l.length ≤ 1000) : LS w' A n c l := by
  obtain ⟨A1, c1, e, h1, h2⟩ := h.slice
  injection e with e1 e2 e3
  subst e1 e2 e3
  exact ⟨rfl, h1, h2, h.sees, hs⟩

theorem PV.of {e : Ending} (hs : l.length ≤ 1000) (h : ∃ v, e = .returned v ∧ PL w v l w') : PV w l e w' := by
  obtain ⟨v, rfl, hP⟩ := h
  obtain ⟨A1, c1, rfl, h1, h2⟩ := hP.slice
  exact ⟨A1, l.length, c1, rfl, hP, hP.ls hs⟩

theorem LS.one (w : World) (x1 x2 : Int) : LS (w.alloc (prObj x1 x2)) (some ⟨w.heap.size, 0, none⟩) 1 1 [(x1, x2)] :=
  ⟨rfl, Nat.le_refl _, by unfold maxLen; omega, by have := new_sees w x1 x2; rwa [show (w.alloc (prObj x1 x2)).heap.size = w.heap.size + 1 by simp], by omega⟩

theorem LS.two (w : World) (x1 x2 y1 y2 : Int) : LS (w.alloc (.cells #[.int .i64 x1, .int .i64 x2, .int .i64 y1, .int .i64 y2] 89)) (some ⟨w.heap.size, 0, none⟩) 2 2 [(x1, x2), (y1, y2)] :=
  ⟨rfl, Nat.le_refl _, by unfold maxLen; omega, by have := sees_new w #[.int .i64 x1, .int .i64 x2, .int .i64 y1, .int .i64 y2] 89; rwa [show (w.alloc (.cells #[.int .i64 x1, .int .i64 x2, .int .i64 y1, .int .i64 y2] 89)).heap.size = w.heap.size + 1 by simp], by omega⟩

theorem LS.three (w : World) (x1 x2 y1 y2 z1 z2 : Int) : LS (w.alloc (.cells #[.int .i64 x1, .int .i64 x2, .int .i64 y1, .int .i64 y2, .int .i64 z1, .int .i64 z2] 89)) (some ⟨w.heap.size, 0, none⟩) 3 3 [(x1, x2), (y1, y2), (z1, z2)] :=
  ⟨rfl, Nat.le_refl _, by unfold maxLen; omega, by have := sees_new w #[.int .i64 x1, .int .i64 x2, .int .i64 y1, .int .i64 y2, .int .i64 z1, .int .i64 z2] 89; rwa [show (w.alloc (.cells #[.int .i64 x1, .int .i64 x2, .int .i64 y1, .int .i64 y2, .int .i64 z1, .int .i64 z2] 89)).heap.size = w.heap.size + 1 by simp], by omega⟩

theorem LS.nil (w : World) : LS w none 0 0 [] := ⟨rfl, Nat.le_refl _, Nat.zero_le _, Sees.nil, by omega⟩

theorem same_ls (h : LS w A n c l) (k : LS w A' m c' r) : Calls Tryz.prog 45 #[.slice A n c, .slice A' m c'] w fun e w' => e = .returned (.bool (decide (l = r))) ∧ Grew w w' := by
  obtain ⟨rfl, _, _, h4, _⟩ := id h
  obtain ⟨rfl, _, _, k4, _⟩ := id k
  exact prsame_any w.heap.size A A' l r c c' w h4 k4 h.ml k.ml

theorem same_lsB (h : LS w A n c l) (k : LS w A' m c' r) : Calls Tryz.prog 45 #[.slice A n c, .slice A' m c'] w fun e w' => e = .returned (.bool (decide (l = r))) ∧ Below w.heap.size w w' :=
  (same_ls h k).mono fun _ _ ⟨a, b⟩ => ⟨a, b.below⟩

theorem padd_ls (p : Pr) (h : LS w A n c l) (hs : Srt l) (hn : n < 1000) : Calls Tryz.prog 112 #[.slice A n c, .agg #[.int .i64 p.1, .int .i64 p.2]] w (PV w (mkP (l ++ [p]))) := by
  obtain ⟨rfl, _, _, h4, _⟩ := id h
  exact (padd_any w.heap.size A l c p w h4 (Nat.le_refl _) h.big hs).mono fun _ _ => PV.of (Nat.le_trans (mkP_len _) (by simp; omega))

theorem punion_ls (h : LS w A n c l) (k : LS w A' m c' r) (hl : Srt l) (hr : Srt r) (hn : n + m ≤ 1000) : Calls Tryz.prog 119 #[.slice A n c, .slice A' m c'] w (PV w (mkP (l ++ r))) := by
  obtain ⟨rfl, _, _, h4, _⟩ := id h
  obtain ⟨rfl, k2, k3, k4, _⟩ := id k
  exact (punion_any w.heap.size A A' l r c c' w h4 k4 (Nat.le_refl _) h.big k.big k2 k3 hl hr).mono fun _ _ => PV.of (Nat.le_trans (mkP_len _) (by simp; omega))

theorem pmissing_ls (h : LS w A n c l) (k : LS w A' m c' r) (hl : Srt l) (hr : Srt r) : Calls Tryz.prog 64 #[.slice A n c, .slice A' m c'] w fun e w' => e = .returned (mres (misP l r)) ∧ Below w.heap.size w w' := by
  obtain ⟨rfl, _, _, h4, _⟩ := id h
  obtain ⟨rfl, k2, k3, k4, _⟩ := id k
  exact pmissing_any w.heap.size A A' l r c c' w h4 k4 (Nat.le_refl _) h.big k.big k2 k3 hl hr

/-- Whether all pairs of a are in b. -/
def subP (a b : List Pr) : Bool := decide (∀ x ∈ a, x ∈ b)

theorem subP_iff {a b : List Pr} : subP a b = true ↔ ∀ x ∈ a, x ∈ b := by simp [subP]

theorem dropV_ls (v : Int) (h : LS w A n c l) : Calls Tryz.prog 107 #[.slice A n c, .int .i64 v] w (PV w (l.filter fun p => !(p.1 == v))) := by
  obtain ⟨rfl, _, _, h4, h5⟩ := id h
  exact (dropV_any w.heap.size A l c v w h4 (Nat.le_refl _) h.big).mono fun _ _ => PV.of (Nat.le_trans (List.length_filter_le _ _) h5)

theorem dropL_ls (v : Int) (h : LS w A n c l) : Calls Tryz.prog 109 #[.slice A n c, .int .i64 v] w (PV w (l.filter fun p => !(p.2 == v))) := by
  obtain ⟨rfl, _, _, h4, h5⟩ := id h
  exact (dropL_any w.heap.size A l c v w h4 (Nat.le_refl _) h.big).mono fun _ _ => PV.of (Nat.le_trans (List.length_filter_le _ _) h5)

end

end Go.Proofs.YtcoehkphdfejjaaGreat

/-
  Has of the program: the library's binary search, with the program's comparison.
-/
namespace Go.Proofs.YtcoehkphdfejjaaGreat
open Go.RowKit
set_option linter.unusedVariables false

/-- What the search knows: all before i are less, none from j on. -/
structure BS (l : List Pr) (p : Pr) (i j : Nat) : Prop where
  lo : ∀ t, (h : t < l.length) → t < i → ltP l[t] p = true
  hi : ∀ t, (h : t < l.length) → j ≤ t → ltP l[t] p = false

theorem BS.left {l : List Pr} {p : Pr} {i j h : Nat} (hs : Srt l) (b : BS l p i j) (hh : h < l.length) (hl : ltP l[h] p = true) : BS l p (h + 1) j :=
  ⟨fun t ht hti => by
    rcases Nat.lt_or_ge t h with h1 | h1
    · exact ltP_trans (hs.lt h1 hh) hl
    · obtain rfl : t = h := by omega
      exact hl, b.hi⟩

theorem BS.right {l : List Pr} {p : Pr} {i j h : Nat} (hs : Srt l) (b : BS l p i j) (hh : h < l.length) (hl : ltP l[h] p = false) : BS l p i h :=
  ⟨b.lo, fun t ht hti => by
    rcases Nat.lt_or_ge h t with h1 | h1
    · rcases Bool.eq_false_or_eq_true (ltP l[t] p) with e | e
      · have := ltP_trans (hs.lt h1 ht) e
        rw [hl] at this
        cases this
      · exact e
    · obtain rfl : t = h := by omega
      exact hl⟩

theorem BS.none {l : List Pr} {p : Pr} {i : Nat} (b : BS l p i i) (hi : l.length ≤ i) : hasP l p = false := by
  refine decide_eq_false fun hp => ?_
  obtain ⟨t, ht, e⟩ := List.getElem_of_mem hp
  have := b.lo t ht (by omega)
  rw [e, ltP_irrefl] at this
  cases this

theorem BS.some {l : List Pr} {p : Pr} {i : Nat} (hs : Srt l) (b : BS l p i i) (hi : i < l.length) : hasP l p = decide (l[i] = p) := by
  by_cases h : l[i] = p
  · rw [decide_eq_true h, ← h]
    exact decide_eq_true (List.getElem_mem _)
  · rw [decide_eq_false h]
    refine decide_eq_false fun hp => ?_
    obtain ⟨t, ht, e⟩ := List.getElem_of_mem hp
    rcases Nat.lt_or_ge t i with h1 | h1
    · have := b.lo t ht h1
      rw [e, ltP_irrefl] at this
      cases this
    · rcases Nat.lt_or_ge i t with h2 | h2
      · have h3 := hs.lt h2 ht
        rw [e] at h3
        have := b.hi i hi (Nat.le_refl _)
        rw [h3] at this
        cases this
      · obtain rfl : t = i := by omega
        exact h e

set_option maxRecDepth 100000 in
set_option maxHeartbeats 4000000 in
theorem search_any (B : Nat) (A : Option Addr) (l : List Pr) (c : Nat) (p : Pr) (w : World) (hs : Sees w B A (prs l)) (hB : B ≤ w.heap.size) (hm : l.length ≤ 1000000) (hsl : Srt l) :
    Calls Tryz.prog 123 #[.slice A l.length c, .agg #[.int .i64 p.1, .int .i64 p.2], .func (.func 90) #[] #[]] w fun e w' => (∃ i : Int, e = .returned (.tuple #[.int .i64 i, .bool (hasP l p)])) ∧ Grew w w' := by
  have mixed : Tryz.prog.follows .mixedOrders = true := by kernel_rfl
  have hK : ∀ args W, (callFunc 90 args).run Tryz.prog W = .ok (.enter 90 args) W := fun args W => enters_of Tryz.func90 (by kernel_rfl) rfl args W
  obtain ⟨p1, p2⟩ := p
  dsimp only
  have HSL := Lib.hid hsl
  have hA := (Row.new w 89 #[.int .i64 p1, .int .i64 p2])
  have HG := Lib.hid ((Grew.refl w).alloc (prObj p1 p2))
  have hs1 := hs.alloc hB (prObj p1 p2)
  clear hs hsl
  go_enter Tryz.func123, Tryz.ntmps123
  go_upto_region 1 with fail
  generalize (w.alloc (.cells #[.int .i64 p1, .int .i64 p2] 89)) = W0 at *
  have HA := Lib.hid hA
  clear hA
  go_wp2
  go_loopg [9, 10] l.length (fun g v9 v10 wr => ∃ i j : Nat, i ≤ j ∧ j ≤ l.length ∧ j - i ≤ g ∧ v9 = .int .i64 i ∧ v10 = .int .i64 j ∧ Hid (BS l (p1, p2) i j) ∧ Hid (Grew W0 wr))
  case atStart => exact ⟨0, l.length, Nat.zero_le _, Nat.le_refl _, by omega, by go_num, rfl, ⟨fun t _ h => by omega, fun t h h2 => by omega⟩, Grew.refl W0⟩
  case round =>
    obtain ⟨i, j, hij, hjl, hg, rfl, rfl, HB, HW⟩ := hrel
    by_cases hlt : i < j
    · have hz : (i : Int) < (j : Int) := by omega
      obtain ⟨h, hh, hih, hhj⟩ : ∃ h : Nat, ((i : Int) + j) / 2 = h ∧ i ≤ h ∧ h < j := ⟨(i + j) / 2, by omega, by omega, by omega⟩
      have hhl : h < l.length := by omega
      have hhz : (h : Int) < (l.length : Int) := by omega
      have HH := Lib.hid hh
      clear hh
      go_upto_region 5 with fail
      rw [HH.out]
      clear HH
      obtain ⟨b, o, rfl, hb, hc0, hc1⟩ := sees_pair hs1 hhl
      have hx := HW.out.row HA.out
      have p0 := hx.cell 0
      have p1' := hx.cell 1
      simp only [List.getElem?_toArray, List.getElem?_cons_zero, List.getElem?_cons_succ] at p0 p1'
      have e0 := HW.out.cell hc0
      have e1 := HW.out.cell hc1
      have HL := Lib.hid fun h' => HB.out.left HSL.out hhl h'
      have HR := Lib.hid fun h' => HB.out.right HSL.out hhl h'
      clear hx hc0 hc1 hs1
      generalize l[h] = y at *
      obtain ⟨y1, y2⟩ := y
      dsimp only at e0 e1
      have C1 : Hid (∀ n os, Calls Tryz.prog 90 #[.agg #[.int .i64 y1, .int .i64 y2], .agg #[.int .i64 p1, .int .i64 p2]] (Go.Sort.grow (wr.drewN n) os) fun e w' => e = .returned (.int .i64 (cmpP (y1, y2) (p1, p2))) ∧ ∃ q os', w' = Go.Sort.grow ((Go.Sort.grow (wr.drewN n) os).drewN q) os') := fun n os => compare_any (y1, y2) (p1, p2) _
      have g0 := fun n os => Go.cell_grown (World.block_lt_of_cell? _ _ e0) e0 n os
      have g1 := fun n os => Go.cell_grown (World.block_lt_of_cell? _ _ e1) e1 n os
      have g2 := fun n os => Go.cell_grown (World.block_lt_of_cell? _ _ p0) p0 n os
      have g3 := fun n os => Go.cell_grown (World.block_lt_of_cell? _ _ p1') p1' n os
      clear e0 e1 p0 p1'
      have hlt0 := cmpP_lt (y1, y2) (p1, p2)
      generalize cmpP (y1, y2) (p1, p2) = r at *
      generalize ltP (y1, y2) (p1, p2) = bl at *
      cases bl
      · have HR2 := Lib.hid (HR.out rfl)
        have hr : ¬ r < 0 := of_decide_eq_false hlt0
        clear hlt0 HL HR
        go_wp2_with fail
        go_quiet_grown (first | (go_at_call 90; refine Calls.grown_of (C1.out _ _)))
        go_wp2
        go_roundg (h - i)
        case measure => omega
        case rel => exact ⟨i, h, by omega, by omega, Nat.le_refl _, rfl, rfl, HR2.out, HW.out.trans ⟨_, _, rfl⟩⟩
      · have HL2 := Lib.hid (HL.out rfl)
        have hr : r < 0 := of_decide_eq_true hlt0
        clear hlt0 HL HR
        go_wp2_with fail
        go_quiet_grown (first | (go_at_call 90; refine Calls.grown_of (C1.out _ _)))
        go_wp2
        go_roundg (j - (h + 1))
        case measure => omega
        case rel => exact ⟨h + 1, j, by omega, by omega, Nat.le_refl _, by go_num, rfl, HL2.out, HW.out.trans ⟨_, _, rfl⟩⟩
    · obtain rfl : i = j := by omega
      have hz : ¬ (i : Int) < (i : Int) := by omega
      by_cases hil : i < l.length
      · have hiz : (i : Int) < (l.length : Int) := by omega
        have HE := Lib.hid (HB.out.some HSL.out hil)
        obtain ⟨b, o, rfl, hb, hc0, hc1⟩ := sees_pair hs1 hil
        have hx := HW.out.row HA.out
        have p0 := hx.cell 0
        have p1' := hx.cell 1
        simp only [List.getElem?_toArray, List.getElem?_cons_zero, List.getElem?_cons_succ] at p0 p1'
        have e0 := HW.out.cell hc0
        have e1 := HW.out.cell hc1
        clear hx hc0 hc1 hs1
        generalize l[i] = y at *
        obtain ⟨y1, y2⟩ := y
        dsimp only at e0 e1
        have C1 : Hid (∀ n os, Calls Tryz.prog 90 #[.agg #[.int .i64 y1, .int .i64 y2], .agg #[.int .i64 p1, .int .i64 p2]] (Go.Sort.grow (wr.drewN n) os) fun e w' => e = .returned (.int .i64 (cmpP (y1, y2) (p1, p2))) ∧ ∃ q os', w' = Go.Sort.grow ((Go.Sort.grow (wr.drewN n) os).drewN q) os') := fun n os => compare_any (y1, y2) (p1, p2) _
        have g0 := fun n os => Go.cell_grown (World.block_lt_of_cell? _ _ e0) e0 n os
        have g1 := fun n os => Go.cell_grown (World.block_lt_of_cell? _ _ e1) e1 n os
        have g2 := fun n os => Go.cell_grown (World.block_lt_of_cell? _ _ p0) p0 n os
        have g3 := fun n os => Go.cell_grown (World.block_lt_of_cell? _ _ p1') p1' n os
        clear e0 e1 p0 p1'
        have HZ := Lib.hid (cmpP_zero (y1, y2) (p1, p2))
        generalize cmpP (y1, y2) (p1, p2) = r at *
        go_wp2_with fail
        go_quiet_grown (first | (go_at_call 90; refine Calls.grown_of (C1.out _ _)))
        go_wp2
        go_ret2
        rw [HE.out, ← HZ.out]
        exact ⟨⟨_, rfl⟩, (HG.out.trans HW.out).trans ⟨_, _, rfl⟩⟩
      · have HE := Lib.hid (HB.out.none (by omega))
        have hiz : ¬ (i : Int) < (l.length : Int) := by omega
        clear hs1
        go_wp2_with fail
        go_quiet (fail)
        go_wp2
        go_ret2
        rw [HE.out]
        exact ⟨⟨_, rfl⟩, (HG.out.trans HW.out).drewN _⟩

set_option maxRecDepth 100000 in
set_option maxHeartbeats 4000000 in
theorem phas_any (B : Nat) (A : Option Addr) (l : List Pr) (c : Nat) (p : Pr) (w : World) (hs : Sees w B A (prs l)) (hB : B ≤ w.heap.size) (hm : l.length ≤ 1000000) (hsl : Srt l) :
    Calls Tryz.prog 111 #[.slice A l.length c, .agg #[.int .i64 p.1, .int .i64 p.2]] w fun e w' => e = .returned (.bool (hasP l p)) ∧ Grew w w' := by
  obtain ⟨p1, p2⟩ := p
  dsimp only
  have hA := (Row.new w 89 #[.int .i64 p1, .int .i64 p2])
  have HG := Lib.hid ((Grew.refl w).alloc (prObj p1 p2))
  have C1 := Lib.hid (search_any B A l c (p1, p2) _ (hs.alloc hB (prObj p1 p2)) (by simp; omega) hm hsl)
  dsimp only at C1
  clear hs hsl
  have a0 := hA.cell 0
  have a1 := hA.cell 1
  simp only [List.getElem?_toArray, List.getElem?_cons_zero, List.getElem?_cons_succ] at a0 a1
  clear hA
  generalize hasP l (p1, p2) = r at *
  go_enter Tryz.func111, Tryz.ntmps111
  go_wp2_with fail
  refine C1.out.mono ?_
  rintro e W1 ⟨⟨i, rfl⟩, hG⟩
  have HG1 := Lib.hid hG
  clear hG
  go_wp2
  go_ret
  exact ⟨rfl, HG.out.trans HG1.out⟩

end Go.Proofs.YtcoehkphdfejjaaGreat

/-
  The library's Clone at lists of pairs.
-/
namespace Go.Proofs.YtcoehkphdfejjaaGreat
open Go.RowKit
set_option linter.unusedVariables false

set_option maxRecDepth 100000 in
set_option maxHeartbeats 1000000 in
theorem pclone_any (B : Nat) (A : Option Addr) (l : List Pr) (c : Nat) (w : World) (hs : Sees w B A (prs l)) (hB : B ≤ w.heap.size) (hm : l.length ≤ 1000000) :
    Calls Tryz.prog 62 #[.slice A l.length c] w fun e w' => ∃ v, e = .returned v ∧ PL w v l w' := by
  rcases A with _ | ad
  · obtain rfl : l = [] := by
      rcases l with _ | ⟨x, r⟩
      · rfl
      · obtain ⟨b, o, h, _⟩ := hs (by simp [prs])
        cases h
    have q22 : ∀ (w : World) (n c n' c' : Nat), (binOp .eql 63 (.slice none n c) (.slice none n' c')).run Tryz.prog w = .ok (.bool true) w := fun w n c n' c' => Lib.run_eql_slice_nil w _ _ _ n c n' c' Tryz.underlying63
    clear hs hm
    go_enter Tryz.func62, Tryz.ntmps62
    go_wp2
    go_ret
    exact ⟨_, rfl, PL.nil _⟩
  · have q22 : ∀ (w : World) (n c n' c' : Nat), (binOp .eql 63 (.slice (some ad) n c) (.slice none n' c')).run Tryz.prog w = .ok (.bool false) w := fun w n c n' c' => Lib.run_eql_slice_nil w _ _ _ n c n' c' Tryz.underlying63
    obtain ⟨i0, hi0, hz0, hz1, hz2⟩ := info_pr
    have hs1 := hs.alloc hB (.cells #[] 89)
    clear hs
    go_enter Tryz.func62, Tryz.ntmps62
    go_wp2_with (at_builtin; refine wpList_append_any _ rfl (.tmp 5) (.tmp 6) 63 rfl w.heap.size 89 i0 (.agg #[.int .i64 0, .int .i64 0]) 2 16 Tryz.underlying63 hi0 hz0 hz1 hz2 rfl (by decide) _ _ _ rfl (own_empty w 89 2) B _ _ _ (prs l) rfl hs1 (prs_length _) (prs_one _) ?c1 ?c2 ?c3 ?_)
    case c1 => unfold maxLen; omega
    case c2 => omega
    case c3 => simp
    intro v1 W1 ho1 hg1 _
    have hb1 : Below w.heap.size w W1 := ((Below.refl _ _).alloc (Nat.le_refl _) _).grown hg1 (by simp) (fun k hk => by simp [Value.ownBlock] at hk; omega)
    have HP : Hid (PL w v1 l W1) := ⟨by simpa using ho1, hb1⟩
    clear ho1 hg1 hb1
    go_wp2
    go_ret
    exact ⟨_, rfl, HP.out⟩

end Go.Proofs.YtcoehkphdfejjaaGreat

/-
  What copies, moves and definitions make of pair sets: the mathematics of layer 12.
-/
namespace Go.Proofs.YtcoehkphdfejjaaGreat
set_option linter.unusedVariables false

/-- The pairs of a list and, for those that f picks, the pairs that h names. -/
def addR (l : List Pr) (f : Pr → Bool) (h : Pr → Pr) : List Pr := mkP (l ++ (l.filter f).map h)

/-- The pair set after a copy of register a to register d. -/
def cpP (l : List Pr) (d a : Int) : List Pr := if d = a then l else addR (l.filter fun p => !(p.1 == d)) (fun p => p.1 == a) fun p => (d, p.2)

/-- The pair set after a move from location s to location t. -/
def mvP (l : List Pr) (t s : Int) : List Pr := if t = s then l else addR (l.filter fun p => !(p.2 == t)) (fun p => p.2 == s) fun p => (p.1, t)

/-- The pair set after a definition of register d in location t. -/
def dfP (l : List Pr) (d t : Int) : List Pr := mkP (((l.filter fun p => !(p.1 == d)).filter fun p => !(p.2 == t)) ++ [(d, t)])

theorem Srt.filter {l : List Pr} (h : Srt l) (f : Pr → Bool) : Srt (l.filter f) := List.Pairwise.sublist List.filter_sublist h

/-- The renamed pairs are a pair set: they keep the location, or the register, in which they differ. -/
theorem ren_srt1 {l : List Pr} (h : Srt l) (d a : Int) : Srt ((l.filter fun p => p.1 == a).map fun p => (d, p.2)) := by
  have h1 := h.filter fun p => p.1 == a
  unfold Srt at *
  rw [List.pairwise_map]
  refine (List.Pairwise.and_mem.1 h1).imp fun {x y} ⟨hx, hy, hxy⟩ => ?_
  have ex := (List.mem_filter.1 hx).2
  have ey := (List.mem_filter.1 hy).2
  rw [beq_iff_eq] at ex ey
  rw [ltP_iff] at *
  dsimp only
  omega

theorem ren_srt2 {l : List Pr} (h : Srt l) (t s : Int) : Srt ((l.filter fun p => p.2 == s).map fun p => (p.1, t)) := by
  have h1 := h.filter fun p => p.2 == s
  unfold Srt at *
  rw [List.pairwise_map]
  refine (List.Pairwise.and_mem.1 h1).imp fun {x y} ⟨hx, hy, hxy⟩ => ?_
  have ex := (List.mem_filter.1 hx).2
  have ey := (List.mem_filter.1 hy).2
  rw [beq_iff_eq] at ex ey
  rw [ltP_iff] at *
  dsimp only
  omega

theorem cpP_srt {l : List Pr} (h : Srt l) (d a : Int) : Srt (cpP l d a) := by
  unfold cpP
  split
  · exact h
  · exact mkP_srt _

theorem mvP_srt {l : List Pr} (h : Srt l) (t s : Int) : Srt (mvP l t s) := by
  unfold mvP
  split
  · exact h
  · exact mkP_srt _

theorem dfP_srt (l : List Pr) (d t : Int) : Srt (dfP l d t) := mkP_srt _

theorem mem_cpP {l : List Pr} {d a : Int} {q : Pr} : q ∈ cpP l d a ↔ (q ∈ l ∧ (d = a ∨ q.1 ≠ d)) ∨ (q.1 = d ∧ (a, q.2) ∈ l) := by
  unfold cpP
  by_cases h : d = a
  · rw [if_pos h]
    constructor
    · intro hq
      exact .inl ⟨hq, .inl h⟩
    · rintro (⟨hq, _⟩ | ⟨h1, h2⟩)
      · exact hq
      · have : q = (a, q.2) := pr_eq (h1.trans h) rfl
        rw [this]
        exact h2
  · rw [if_neg h]
    unfold addR
    rw [mem_mkP, List.mem_append, List.mem_filter, List.mem_map]
    constructor
    · rintro (⟨h1, h2⟩ | ⟨p, hp, rfl⟩)
      · exact .inl ⟨h1, .inr (by simpa using h2)⟩
      · obtain ⟨h1, h2⟩ := List.mem_filter.1 hp
        obtain ⟨h3, _⟩ := List.mem_filter.1 h1
        refine .inr ⟨rfl, ?_⟩
        have : (a, p.2) = p := pr_eq (by simpa using (beq_iff_eq.1 h2).symm) rfl
        dsimp only
        rw [this]
        exact h3
    · rintro (⟨h1, h2⟩ | ⟨h1, h2⟩)
      · exact .inl ⟨h1, by simpa using h2.resolve_left h⟩
      · refine .inr ⟨(a, q.2), List.mem_filter.2 ⟨List.mem_filter.2 ⟨h2, ?_⟩, by simp⟩, pr_eq h1.symm rfl⟩
        simpa using fun e => h e.symm

theorem mem_mvP {l : List Pr} {t s : Int} {q : Pr} : q ∈ mvP l t s ↔ (q ∈ l ∧ (t = s ∨ q.2 ≠ t)) ∨ (q.2 = t ∧ (q.1, s) ∈ l) := by
  unfold mvP
  by_cases h : t = s
  · rw [if_pos h]
    constructor
    · intro hq
      exact .inl ⟨hq, .inl h⟩
    · rintro (⟨hq, _⟩ | ⟨h1, h2⟩)
      · exact hq
      · have : q = (q.1, s) := pr_eq rfl (h1.trans h)
        rw [this]
        exact h2
  · rw [if_neg h]
    unfold addR
    rw [mem_mkP, List.mem_append, List.mem_filter, List.mem_map]
    constructor
    · rintro (⟨h1, h2⟩ | ⟨p, hp, rfl⟩)
      · exact .inl ⟨h1, .inr (by simpa using h2)⟩
      · obtain ⟨h1, h2⟩ := List.mem_filter.1 hp
        obtain ⟨h3, _⟩ := List.mem_filter.1 h1
        refine .inr ⟨rfl, ?_⟩
        have : (p.1, s) = p := pr_eq rfl (by simpa using (beq_iff_eq.1 h2).symm)
        dsimp only
        rw [this]
        exact h3
    · rintro (⟨h1, h2⟩ | ⟨h1, h2⟩)
      · exact .inl ⟨h1, by simpa using h2.resolve_left h⟩
      · refine .inr ⟨(q.1, s), List.mem_filter.2 ⟨List.mem_filter.2 ⟨h2, ?_⟩, by simp⟩, pr_eq rfl h1.symm⟩
        simpa using fun e => h e.symm

theorem mem_dfP {l : List Pr} {d t : Int} {q : Pr} : q ∈ dfP l d t ↔ (q ∈ l ∧ q.1 ≠ d ∧ q.2 ≠ t) ∨ q = (d, t) := by
  unfold dfP
  rw [mem_mkP, List.mem_append, List.mem_filter, List.mem_filter, List.mem_singleton]
  simp [and_assoc]

theorem cpP_len (l : List Pr) (d a : Int) : (cpP l d a).length ≤ 2 * l.length := by
  unfold cpP
  split
  · omega
  · refine Nat.le_trans (mkP_len _) ?_
    rw [List.length_append, List.length_map]
    have h1 := List.length_filter_le (fun p : Pr => !(p.1 == d)) l
    have h2 := List.length_filter_le (fun p : Pr => p.1 == a) (l.filter fun p => !(p.1 == d))
    omega

theorem mvP_len (l : List Pr) (t s : Int) : (mvP l t s).length ≤ 2 * l.length := by
  unfold mvP
  split
  · omega
  · refine Nat.le_trans (mkP_len _) ?_
    rw [List.length_append, List.length_map]
    have h1 := List.length_filter_le (fun p : Pr => !(p.2 == t)) l
    have h2 := List.length_filter_le (fun p : Pr => p.2 == s) (l.filter fun p => !(p.2 == t))
    omega

theorem dfP_len (l : List Pr) (d t : Int) : (dfP l d t).length ≤ l.length + 1 := by
  refine Nat.le_trans (mkP_len _) ?_
  rw [List.length_append, List.length_singleton]
  have h1 := List.length_filter_le (fun p : Pr => !(p.1 == d)) l
  have h2 := List.length_filter_le (fun p : Pr => !(p.2 == t)) (l.filter fun p => !(p.1 == d))
  omega

/-- What the reference of Copy adds for a pair. -/
def cpS (d a : Int) (p : Pr) : List Pr := (if d = a ∨ p.1 ≠ d then [p] else []) ++ if p.1 = a then [(d, p.2)] else []

def mvS (t s : Int) (p : Pr) : List Pr := (if t = s ∨ p.2 ≠ t then [p] else []) ++ if p.2 = s then [(p.1, t)] else []

def dfS (d t : Int) (p : Pr) : List Pr := if p.1 ≠ d ∧ p.2 ≠ t then [p] else []

theorem mem_ite_one {c : Prop} [Decidable c] {q x : Pr} : q ∈ (if c then [x] else []) ↔ c ∧ q = x := by
  by_cases h : c <;> simp [h]

theorem cpS_eq {l : List Pr} (h : Srt l) (d a : Int) : mkP (l.flatMap (cpS d a)) = cpP l d a := by
  refine (mkP_eq (cpP_srt h d a) fun q => ?_).symm
  rw [mem_cpP, List.mem_flatMap]
  constructor
  · rintro (⟨h1, h2⟩ | ⟨h1, h2⟩)
    · exact ⟨q, h1, List.mem_append.2 (.inl (mem_ite_one.2 ⟨h2, rfl⟩))⟩
    · exact ⟨(a, q.2), h2, List.mem_append.2 (.inr (mem_ite_one.2 ⟨rfl, pr_eq h1 rfl⟩))⟩
  · rintro ⟨p, hp, hq⟩
    rcases List.mem_append.1 hq with hq | hq
    · obtain ⟨h1, rfl⟩ := mem_ite_one.1 hq
      exact .inl ⟨hp, h1⟩
    · obtain ⟨h1, rfl⟩ := mem_ite_one.1 hq
      refine .inr ⟨rfl, ?_⟩
      have : (a, p.2) = p := pr_eq h1.symm rfl
      dsimp only
      rw [this]
      exact hp

theorem mvS_eq {l : List Pr} (h : Srt l) (t s : Int) : mkP (l.flatMap (mvS t s)) = mvP l t s := by
  refine (mkP_eq (mvP_srt h t s) fun q => ?_).symm
  rw [mem_mvP, List.mem_flatMap]
  constructor
  · rintro (⟨h1, h2⟩ | ⟨h1, h2⟩)
    · exact ⟨q, h1, List.mem_append.2 (.inl (mem_ite_one.2 ⟨h2, rfl⟩))⟩
    · exact ⟨(q.1, s), h2, List.mem_append.2 (.inr (mem_ite_one.2 ⟨rfl, pr_eq rfl h1⟩))⟩
  · rintro ⟨p, hp, hq⟩
    rcases List.mem_append.1 hq with hq | hq
    · obtain ⟨h1, rfl⟩ := mem_ite_one.1 hq
      exact .inl ⟨hp, h1⟩
    · obtain ⟨h1, rfl⟩ := mem_ite_one.1 hq
      refine .inr ⟨rfl, ?_⟩
      have : (p.1, s) = p := pr_eq rfl h1.symm
      dsimp only
      rw [this]
      exact hp

theorem dfS_eq (l : List Pr) (d t : Int) : mkP ([(d, t)] ++ l.flatMap (dfS d t)) = dfP l d t := by
  refine (mkP_eq (dfP_srt l d t) fun q => ?_).symm
  rw [mem_dfP, List.mem_append, List.mem_singleton, List.mem_flatMap]
  constructor
  · rintro (⟨h1, h2⟩ | h)
    · exact .inr ⟨q, h1, mem_ite_one.2 ⟨h2, rfl⟩⟩
    · exact .inl h
  · rintro (h | ⟨p, hp, hq⟩)
    · exact .inr h
    · obtain ⟨h1, rfl⟩ := mem_ite_one.1 hq
      exact .inl ⟨hp, h1⟩

theorem flat_take {l : List Pr} {k : Nat} (hk : k < l.length) (S : Pr → List Pr) : (l.take (k + 1)).flatMap S = (l.take k).flatMap S ++ S l[k] := by
  rw [List.take_succ_eq_append_getElem hk, List.flatMap_append, List.flatMap_singleton]

theorem cpS_len (d a : Int) (p : Pr) : (cpS d a p).length ≤ 2 := by
  unfold cpS
  split <;> split <;> simp

theorem mvS_len (t s : Int) (p : Pr) : (mvS t s p).length ≤ 2 := by
  unfold mvS
  split <;> split <;> simp

theorem dfS_len (d t : Int) (p : Pr) : (dfS d t p).length ≤ 2 := by
  unfold dfS
  split <;> simp

theorem flat_len {S : Pr → List Pr} (hS : ∀ p, (S p).length ≤ 2) : ∀ l : List Pr, (l.flatMap S).length ≤ 2 * l.length
  | [] => by simp
  | x :: r => by
    have := hS x
    have := flat_len hS r
    simp only [List.flatMap_cons, List.length_append, List.length_cons]
    omega

theorem mkP_add (o : List Pr) (p : Pr) : addP (mkP o) p = mkP (o ++ [p]) := (mkP_snoc o p).symm

/-- The monotony of the three. -/
theorem cpP_mono {l m : List Pr} (h : ∀ q ∈ l, q ∈ m) (d a : Int) : ∀ q ∈ cpP l d a, q ∈ cpP m d a := fun q hq =>
  mem_cpP.2 ((mem_cpP.1 hq).imp (fun ⟨h1, h2⟩ => ⟨h _ h1, h2⟩) fun ⟨h1, h2⟩ => ⟨h1, h _ h2⟩)

theorem mvP_mono {l m : List Pr} (h : ∀ q ∈ l, q ∈ m) (t s : Int) : ∀ q ∈ mvP l t s, q ∈ mvP m t s := fun q hq =>
  mem_mvP.2 ((mem_mvP.1 hq).imp (fun ⟨h1, h2⟩ => ⟨h _ h1, h2⟩) fun ⟨h1, h2⟩ => ⟨h1, h _ h2⟩)

theorem dfP_mono {l m : List Pr} (h : ∀ q ∈ l, q ∈ m) (d t : Int) : ∀ q ∈ dfP l d t, q ∈ dfP m d t := fun q hq =>
  mem_dfP.2 ((mem_dfP.1 hq).imp_left fun ⟨h1, h2⟩ => ⟨h _ h1, h2⟩)

end Go.Proofs.YtcoehkphdfejjaaGreat

/-
  Copy, Move and Define of the program.
-/
namespace Go.Proofs.YtcoehkphdfejjaaGreat
open Go.RowKit
set_option linter.unusedVariables false

/-- A closure over two cells that renames a pair. -/
def RenC (g : Nat) (pb qb : Nat) (f : Pr → Bool) (h : Pr → Pr) (w : World) : Prop :=
  ∀ (x : Pr) W, Below w.heap.size w W → Calls Tryz.prog g #[.agg #[.int .i64 x.1, .int .i64 x.2], .pointer (some ⟨pb, 0, none⟩), .pointer (some ⟨qb, 0, none⟩)] W fun e w' => e = .returned (.tuple #[.agg #[.int .i64 (h x).1, .int .i64 (h x).2], .bool (f x)]) ∧ Below W.heap.size W w'

set_option maxRecDepth 100000 in
set_option maxHeartbeats 4000000 in
theorem addRen_any (f : Pr → Bool) (h : Pr → Pr) (g pb qb : Nat) (B : Nat) (A : Option Addr) (l : List Pr) (c : Nat) (w : World) (hs : Sees w B A (prs l)) (hB : B ≤ w.heap.size) (hm : l.length ≤ 1000000) (hsl : Srt l) (hsr : Srt ((l.filter f).map h))
    (hK : ∀ args W, (callFunc g args).run Tryz.prog W = .ok (.enter g args) W) (hf : RenC g pb qb f h w) :
    Calls Tryz.prog 106 #[.slice A l.length c, .func (.func g) #[] #[.pointer (some ⟨pb, 0, none⟩), .pointer (some ⟨qb, 0, none⟩)]] w fun e w' => ∃ v, e = .returned v ∧ PL w v (addR l f h) w' := by
  obtain ⟨i0, hi0, hz0, hz1, hz2⟩ := info_pr
  have HF := Lib.hid hf
  have HS := Lib.hid hs
  have HSL := Lib.hid hsl
  have HSR := Lib.hid hsr
  clear hf hsl hsr
  go_enter Tryz.func106, Tryz.ntmps106
  go_wp2
  go_loopg [5, 12] l.length (fun g v5 v12 wr => ∃ k : Nat, k + g = l.length ∧ v12 = .int .i64 k ∧ Hid (PL w v5 (((l.take k).filter f).map h) wr))
  case atStart => exact ⟨0, by omega, by go_num, PL.nil w⟩
  case round =>
    obtain ⟨k, hg, rfl, HP⟩ := hrel
    by_cases hlt : k < l.length
    · have hol : (((l.take k).filter f).map h).length ≤ 1000000 := by rw [List.length_map]; exact Nat.le_trans (List.length_filter_le _ _) (by simp; omega)
      have HE : Hid (((l.take (k + 1)).filter f).map h = ((l.take k).filter f).map h ++ if f l[k] then [h l[k]] else []) := by
        show _ = _
        rw [List.take_succ_eq_append_getElem hlt, List.filter_append, List.map_append]
        cases hh : f l[k] <;> simp [hh]
      generalize ((l.take k).filter f).map h = o at *
      obtain ⟨b1, o1, rfl, hb, hc0, hc1⟩ := sees_pair hs hlt
      have f0 := (HP.out.blw.cell (p := ⟨b1, _, none⟩) (by show b1 < _; omega)).trans hc0
      have f1 := (HP.out.blw.cell (p := ⟨b1, _, none⟩) (by show b1 < _; omega)).trans hc1
      have hkz : (k : Int) < (l.length : Int) := by omega
      generalize l[k] = x at *
      obtain ⟨x1, x2⟩ := x
      dsimp only at f0 f1
      clear hc0 hc1 hs HS
      go_upto_region 5 with fail
      have HX := Lib.hid (PX.of HP.out x1 x2)
      clear f0 f1 HP
      generalize (wr.alloc (.cells #[.int .i64 x1, .int .i64 x2] 89)) = W1 at *
      generalize wr.heap.size = rb at *
      obtain ⟨p0, p1⟩ := HX.out.cells
      have C1 := Lib.hid (HF.out (x1, x2) W1 HX.out.pl.blw)
      dsimp only at C1
      generalize f (x1, x2) = bb at *
      generalize h (x1, x2) = y at *
      obtain ⟨y1, y2⟩ := y
      dsimp only at C1
      cases bb
      · go_wp2_with fail
        refine C1.out.mono ?_
        rintro e W2 ⟨rfl, hb2⟩
        have HP2 := Lib.hid ((HX.out.pl.next hb2).alloc (prObj y1 y2))
        clear p0 p1 hb2 HX C1
        go_wp2
        go_roundg (l.length - (k + 1))
        case measure => omega
        case rel => exact ⟨k + 1, by omega, by go_num, by show PL _ _ _ _; rw [HE.out]; simpa using HP2.out⟩
      · go_wp2_with fail
        refine C1.out.mono ?_
        rintro e W2 ⟨rfl, hb2⟩
        have HP2 := Lib.hid ((HX.out.pl.next hb2).alloc (prObj y1 y2))
        have hY := Row.new W2 89 #[.int .i64 y1, .int .i64 y2]
        clear p0 p1 hb2 HX C1
        go_upto_region 7 with fail
        generalize (W2.alloc (.cells #[.int .i64 y1, .int .i64 y2] 89)) = W3 at *
        have y0 := hY.cell 0
        have z0 := hY.cell 1
        simp only [List.getElem?_toArray, List.getElem?_cons_zero, List.getElem?_cons_succ] at y0 z0
        clear hY
        have hown := (HP2.out.alloc (prObj y1 y2)).own
        have hnew := new_sees W3 y1 y2
        go_wp2_with (at_builtin; refine wpList_append_any _ rfl (.tmp 23) (.tmp 25) 63 rfl _ 89 i0 (.agg #[.int .i64 0, .int .i64 0]) 2 16 Tryz.underlying63 hi0 hz0 hz1 hz2 rfl (by decide) _ _ _ rfl hown (W3.heap.size + 1) _ 1 1 _ rfl hnew rfl (prs_one _) ?c1 ?c2 ?c3 ?_)
        case c1 => have := hol; unfold maxLen; omega
        case c2 => have := hol; omega
        case c3 => have := HP2.out.blw.size; simp; omega
        intro v3 W4 ho2 hg2 hb2
        have HP4 := Lib.hid (HP2.out.push y1 y2 (by first | rfl | simp) ho2 hg2)
        clear ho2 hg2 hb2 hown hnew
        go_wp2
        go_roundg (l.length - (k + 1))
        case measure => omega
        case rel => exact ⟨k + 1, by omega, by go_num, by show PL _ _ _ _; rw [HE.out]; exact HP4.out⟩
    · have hk2 : l.take k = l := List.take_of_length_le (by omega)
      rw [hk2] at HP
      have hkz : ¬ (k : Int) < (l.length : Int) := by omega
      have hrl : ((l.filter f).map h).length ≤ 1000000 := by rw [List.length_map]; exact Nat.le_trans (List.length_filter_le _ _) hm
      have HAR : Hid (addR l f h = mkP (l ++ (l.filter f).map h)) := rfl
      generalize (l.filter f).map h = o at *
      obtain ⟨A5, c5, rfl, hoc, hcm⟩ := HP.out.slice
      have C2 := Lib.hid (punion_any wr.heap.size A A5 l o c c5 wr ((HS.out.below (HP.out.blw.mono hB)).more (by have := HP.out.blw.size; omega)) HP.out.sees (Nat.le_refl _) hm hrl hoc hcm HSL.out HSR.out)
      have HPB := Lib.hid HP.out.blw
      clear hk2 hs HP hoc hcm hrl
      go_wp2_with fail
      refine C2.out.mono ?_
      rintro e W2 ⟨v, rfl, hP⟩
      have HP2 := Lib.hid (hP.base HPB.out)
      clear hP
      go_wp2
      go_ret
      rw [HAR.out]
      exact ⟨_, rfl, HP2.out⟩

set_option maxRecDepth 100000 in
set_option maxHeartbeats 1000000 in
theorem renC_any (d a : Int) (pb qb : Nat) (x : Pr) (W : World) (h0 : W.cell? ⟨pb, 0, none⟩ = some (.int .i64 d)) (h1 : W.cell? ⟨qb, 0, none⟩ = some (.int .i64 a)) :
    Calls Tryz.prog 108 #[.agg #[.int .i64 x.1, .int .i64 x.2], .pointer (some ⟨pb, 0, none⟩), .pointer (some ⟨qb, 0, none⟩)] W fun e w' => e = .returned (.tuple #[.agg #[.int .i64 d, .int .i64 x.2], .bool (x.1 == a)]) ∧ Below W.heap.size W w' := by
  obtain ⟨x1, x2⟩ := x
  dsimp only
  have HB := Lib.hid (((Below.refl W.heap.size W).alloc (Nat.le_refl _) (prObj x1 x2)).alloc (by simp) (prObj 0 0))
  have a0 : pb < W.heap.size := World.block_lt_of_cell? _ _ h0
  have a1 : qb < W.heap.size := World.block_lt_of_cell? _ _ h1
  have n0 : ¬ pb = W.heap.size + 1 := by omega
  have n1 : ¬ qb = W.heap.size + 1 := by omega
  have n2 : ¬ W.heap.size + 1 = pb := by omega
  have n3 : ¬ W.heap.size + 1 = qb := by omega
  have e0 := (World.cell?_alloc_lt (W.alloc (prObj x1 x2)) (prObj 0 0) ⟨pb, 0, none⟩ (by simp; omega)).trans ((World.cell?_alloc_lt W (prObj x1 x2) ⟨pb, 0, none⟩ a0).trans h0)
  have e1 := (World.cell?_alloc_lt (W.alloc (prObj x1 x2)) (prObj 0 0) ⟨qb, 0, none⟩ (by simp; omega)).trans ((World.cell?_alloc_lt W (prObj x1 x2) ⟨qb, 0, none⟩ a1).trans h1)
  have hR := (Row.new W 89 #[.int .i64 x1, .int .i64 x2]).alloc (prObj 0 0)
  have hQ := Row.new (W.alloc (prObj x1 x2)) 89 #[.int .i64 0, .int .i64 0]
  rw [show (W.alloc (prObj x1 x2)).heap.size = W.heap.size + 1 by simp] at hQ
  clear h0 h1 a0 a1
  go_enter Tryz.func108, Tryz.ntmps108
  go_upto_region 1 with fail
  generalize ((W.alloc (.cells #[.int .i64 x1, .int .i64 x2] 89)).alloc (.cells #[.int .i64 0, .int .i64 0] 89)) = W2 at *
  have r0 := hR.cell 0; have r1 := hR.cell 1; have q0 := hQ.cell 0; have q1 := hQ.cell 1; have f0 := hQ.frozen 0; have f1 := hQ.frozen 1
  simp only [List.getElem?_toArray, List.getElem?_cons_zero, List.getElem?_cons_succ] at r0 r1 q0 q1
  clear hR hQ
  go_region
  go_wp2
  (try simp only [Exit.inBlock, Exit.then])
  refine bodyPost_ret (v := .tuple #[.agg #[.int .i64 d, .int .i64 x2], .bool (x1 == a)]) ?_ rfl ⟨rfl, ?_⟩
  · rw [results_cell_tmp rfl]
    go_simp
  · exact (((HB.out.setCell (p := ⟨W.heap.size + 1, 0, none⟩) (by simp) _).setCell (p := ⟨W.heap.size + 1, 1, none⟩) (by simp) _).drew)

set_option maxRecDepth 100000 in
set_option maxHeartbeats 1000000 in
theorem renM_any (d a : Int) (pb qb : Nat) (x : Pr) (W : World) (h0 : W.cell? ⟨pb, 0, none⟩ = some (.int .i64 d)) (h1 : W.cell? ⟨qb, 0, none⟩ = some (.int .i64 a)) :
    Calls Tryz.prog 110 #[.agg #[.int .i64 x.1, .int .i64 x.2], .pointer (some ⟨pb, 0, none⟩), .pointer (some ⟨qb, 0, none⟩)] W fun e w' => e = .returned (.tuple #[.agg #[.int .i64 x.1, .int .i64 d], .bool (x.2 == a)]) ∧ Below W.heap.size W w' := by
  obtain ⟨x1, x2⟩ := x
  dsimp only
  have HB := Lib.hid (((Below.refl W.heap.size W).alloc (Nat.le_refl _) (prObj x1 x2)).alloc (by simp) (prObj 0 0))
  have a0 : pb < W.heap.size := World.block_lt_of_cell? _ _ h0
  have a1 : qb < W.heap.size := World.block_lt_of_cell? _ _ h1
  have n0 : ¬ pb = W.heap.size + 1 := by omega
  have n1 : ¬ qb = W.heap.size + 1 := by omega
  have n2 : ¬ W.heap.size + 1 = pb := by omega
  have n3 : ¬ W.heap.size + 1 = qb := by omega
  have e0 := (World.cell?_alloc_lt (W.alloc (prObj x1 x2)) (prObj 0 0) ⟨pb, 0, none⟩ (by simp; omega)).trans ((World.cell?_alloc_lt W (prObj x1 x2) ⟨pb, 0, none⟩ a0).trans h0)
  have e1 := (World.cell?_alloc_lt (W.alloc (prObj x1 x2)) (prObj 0 0) ⟨qb, 0, none⟩ (by simp; omega)).trans ((World.cell?_alloc_lt W (prObj x1 x2) ⟨qb, 0, none⟩ a1).trans h1)
  have hR := (Row.new W 89 #[.int .i64 x1, .int .i64 x2]).alloc (prObj 0 0)
  have hQ := Row.new (W.alloc (prObj x1 x2)) 89 #[.int .i64 0, .int .i64 0]
  rw [show (W.alloc (prObj x1 x2)).heap.size = W.heap.size + 1 by simp] at hQ
  clear h0 h1 a0 a1
  go_enter Tryz.func110, Tryz.ntmps110
  go_upto_region 1 with fail
  generalize ((W.alloc (.cells #[.int .i64 x1, .int .i64 x2] 89)).alloc (.cells #[.int .i64 0, .int .i64 0] 89)) = W2 at *
  have r0 := hR.cell 0; have r1 := hR.cell 1; have q0 := hQ.cell 0; have q1 := hQ.cell 1; have f0 := hQ.frozen 0; have f1 := hQ.frozen 1
  simp only [List.getElem?_toArray, List.getElem?_cons_zero, List.getElem?_cons_succ] at r0 r1 q0 q1
  clear hR hQ
  go_region
  go_wp2
  (try simp only [Exit.inBlock, Exit.then])
  refine bodyPost_ret (v := .tuple #[.agg #[.int .i64 x1, .int .i64 d], .bool (x2 == a)]) ?_ rfl ⟨rfl, ?_⟩
  · rw [results_cell_tmp rfl]
    go_simp
  · exact (((HB.out.setCell (p := ⟨W.heap.size + 1, 0, none⟩) (by simp) _).setCell (p := ⟨W.heap.size + 1, 1, none⟩) (by simp) _).drew)

set_option maxRecDepth 100000 in
set_option maxHeartbeats 4000000 in
theorem tcopy_any (B : Nat) (A : Option Addr) (l : List Pr) (c : Nat) (d a : Int) (w : World) (hs : Sees w B A (prs l)) (hB : B ≤ w.heap.size) (hm : l.length ≤ 1000000) (hsl : Srt l) :
    Calls Tryz.prog 95 #[.slice A l.length c, .int .i64 d, .int .i64 a] w fun e w' => ∃ v, e = .returned v ∧ PL w v (cpP l d a) w' := by
  by_cases hda : d = a
  · obtain rfl := hda
    have hne : (d == d) = true := by simp
    have HB2 := Lib.hid (((Below.refl w.heap.size w).alloc (Nat.le_refl _) (.cells #[.int .i64 d] 3)).alloc (by simp) (.cells #[.int .i64 d] 3))
    have HMN : Hid (cpP l d d = l) := if_pos rfl
    have hR := (Row.new w 3 #[.int .i64 d]).alloc (.cells #[.int .i64 d] 3)
    have hQ := Row.new (w.alloc (.cells #[.int .i64 d] 3)) 3 #[.int .i64 d]
    rw [show (w.alloc (.cells #[.int .i64 d] 3)).heap.size = w.heap.size + 1 by simp] at hQ
    have HL := Lib.hid ((hs.below (HB2.out.mono hB)).more (Nat.le_trans hB HB2.out.size))
    clear hs hsl
    go_enter Tryz.func95, Tryz.ntmps95
    go_upto_region 1 with fail
    generalize ((w.alloc (.cells #[.int .i64 d] 3)).alloc (.cells #[.int .i64 d] 3)) = W2 at *
    have r0 := hR.cell 0
    have q0 := hQ.cell 0
    simp only [List.getElem?_toArray, List.getElem?_cons_zero] at r0 q0
    have C1 := Lib.hid (pclone_any W2.heap.size A l c W2 HL.out (Nat.le_refl _) hm)
    clear hR hQ
    go_wp2_with fail
    refine C1.out.mono ?_
    rintro e W3 ⟨v, rfl, hP⟩
    have HP := Lib.hid (hP.base HB2.out)
    clear hP
    go_wp2
    go_ret
    rw [HMN.out]
    exact ⟨_, rfl, HP.out⟩
  · have HN := Lib.hid (show ¬ d = a from hda)
    have hne : (d == a) = false := by simp [hda]
    have HB2 := Lib.hid (((Below.refl w.heap.size w).alloc (Nat.le_refl _) (.cells #[.int .i64 d] 3)).alloc (by simp) (.cells #[.int .i64 a] 3))
    have hR := (Row.new w 3 #[.int .i64 d]).alloc (.cells #[.int .i64 a] 3)
    have hQ := Row.new (w.alloc (.cells #[.int .i64 d] 3)) 3 #[.int .i64 a]
    rw [show (w.alloc (.cells #[.int .i64 d] 3)).heap.size = w.heap.size + 1 by simp] at hQ
    have HL := Lib.hid ((hs.below (HB2.out.mono hB)).more (Nat.le_trans hB HB2.out.size))
    have HSL := Lib.hid hsl
    clear hda hs hsl
    go_enter Tryz.func95, Tryz.ntmps95
    go_upto_region 1 with fail
    generalize ((w.alloc (.cells #[.int .i64 d] 3)).alloc (.cells #[.int .i64 a] 3)) = W2 at *
    have r0 := hR.cell 0
    have q0 := hQ.cell 0
    simp only [List.getElem?_toArray, List.getElem?_cons_zero] at r0 q0
    have C1 := Lib.hid (dropV_any W2.heap.size A l c d W2 HL.out (Nat.le_refl _) hm)
    have hfl := List.length_filter_le (fun p : Pr => !(p.1 == d)) l
    have HFS := Lib.hid (HSL.out.filter fun p => !(p.1 == d))
    have HMN : Hid (cpP l d a = addR (l.filter fun p => !(p.1 == d)) (fun p => p.1 == a) (fun p => (d, p.2))) := if_neg HN.out
    generalize (l.filter fun p => !(p.1 == d)) = l2 at *
    have hl2 : l2.length ≤ 1000000 := by omega
    clear hfl
    go_upto_region 3 with fail
    go_wp2_with fail
    refine C1.out.mono ?_
    rintro e W3 ⟨v, rfl, hP⟩
    obtain ⟨A3, c3, rfl, _, _⟩ := hP.slice
    have HQ3 := Lib.hid (hQ.below hP.blw hQ.lt)
    have HR3 := Lib.hid (hR.below hP.blw hR.lt)
    have HP := Lib.hid hP
    clear hP C1 r0 q0 hR hQ
    have C2 := Lib.hid (addRen_any (fun p => p.1 == a) (fun p => (d, p.2)) 108 w.heap.size (w.heap.size + 1) W3.heap.size A3 l2 c3 W3 HP.out.sees (Nat.le_refl _) hl2 HFS.out (ren_srt1 HFS.out d a) (fun args W => enters_of Tryz.func108 (by kernel_rfl) rfl args W) fun x W hW => renC_any d a w.heap.size (w.heap.size + 1) x W ((hW.cell (p := ⟨_, 0, none⟩) HR3.out.lt).trans (HR3.out.cell 0)) ((hW.cell (p := ⟨_, 0, none⟩) HQ3.out.lt).trans (HQ3.out.cell 0)))
    have r0 := HR3.out.cell 0
    have q0 := HQ3.out.cell 0
    simp only [List.getElem?_toArray, List.getElem?_cons_zero] at r0 q0
    go_wp2_with fail
    refine C2.out.mono ?_
    rintro e W4 ⟨v, rfl, hP⟩
    have HP4 := Lib.hid ((hP.base HP.out.blw).base HB2.out)
    clear hP
    go_wp2
    go_ret
    rw [HMN.out]
    exact ⟨_, rfl, HP4.out⟩

set_option maxRecDepth 100000 in
set_option maxHeartbeats 4000000 in
theorem tmove_any (B : Nat) (A : Option Addr) (l : List Pr) (c : Nat) (d a : Int) (w : World) (hs : Sees w B A (prs l)) (hB : B ≤ w.heap.size) (hm : l.length ≤ 1000000) (hsl : Srt l) :
    Calls Tryz.prog 96 #[.slice A l.length c, .int .i64 d, .int .i64 a] w fun e w' => ∃ v, e = .returned v ∧ PL w v (mvP l d a) w' := by
  by_cases hda : d = a
  · obtain rfl := hda
    have hne : (d == d) = true := by simp
    have HB2 := Lib.hid (((Below.refl w.heap.size w).alloc (Nat.le_refl _) (.cells #[.int .i64 d] 54)).alloc (by simp) (.cells #[.int .i64 d] 54))
    have HMN : Hid (mvP l d d = l) := if_pos rfl
    have hR := (Row.new w 54 #[.int .i64 d]).alloc (.cells #[.int .i64 d] 54)
    have hQ := Row.new (w.alloc (.cells #[.int .i64 d] 54)) 54 #[.int .i64 d]
    rw [show (w.alloc (.cells #[.int .i64 d] 54)).heap.size = w.heap.size + 1 by simp] at hQ
    have HL := Lib.hid ((hs.below (HB2.out.mono hB)).more (Nat.le_trans hB HB2.out.size))
    clear hs hsl
    go_enter Tryz.func96, Tryz.ntmps96
    go_upto_region 1 with fail
    generalize ((w.alloc (.cells #[.int .i64 d] 54)).alloc (.cells #[.int .i64 d] 54)) = W2 at *
    have r0 := hR.cell 0
    have q0 := hQ.cell 0
    simp only [List.getElem?_toArray, List.getElem?_cons_zero] at r0 q0
    have C1 := Lib.hid (pclone_any W2.heap.size A l c W2 HL.out (Nat.le_refl _) hm)
    clear hR hQ
    go_wp2_with fail
    refine C1.out.mono ?_
    rintro e W3 ⟨v, rfl, hP⟩
    have HP := Lib.hid (hP.base HB2.out)
    clear hP
    go_wp2
    go_ret
    rw [HMN.out]
    exact ⟨_, rfl, HP.out⟩
  · have HN := Lib.hid (show ¬ d = a from hda)
    have hne : (d == a) = false := by simp [hda]
    have HB2 := Lib.hid (((Below.refl w.heap.size w).alloc (Nat.le_refl _) (.cells #[.int .i64 d] 54)).alloc (by simp) (.cells #[.int .i64 a] 54))
    have hR := (Row.new w 54 #[.int .i64 d]).alloc (.cells #[.int .i64 a] 54)
    have hQ := Row.new (w.alloc (.cells #[.int .i64 d] 54)) 54 #[.int .i64 a]
    rw [show (w.alloc (.cells #[.int .i64 d] 54)).heap.size = w.heap.size + 1 by simp] at hQ
    have HL := Lib.hid ((hs.below (HB2.out.mono hB)).more (Nat.le_trans hB HB2.out.size))
    have HSL := Lib.hid hsl
    clear hda hs hsl
    go_enter Tryz.func96, Tryz.ntmps96
    go_upto_region 1 with fail
    generalize ((w.alloc (.cells #[.int .i64 d] 54)).alloc (.cells #[.int .i64 a] 54)) = W2 at *
    have r0 := hR.cell 0
    have q0 := hQ.cell 0
    simp only [List.getElem?_toArray, List.getElem?_cons_zero] at r0 q0
    have C1 := Lib.hid (dropL_any W2.heap.size A l c d W2 HL.out (Nat.le_refl _) hm)
    have hfl := List.length_filter_le (fun p : Pr => !(p.2 == d)) l
    have HFS := Lib.hid (HSL.out.filter fun p => !(p.2 == d))
    have HMN : Hid (mvP l d a = addR (l.filter fun p => !(p.2 == d)) (fun p => p.2 == a) (fun p => (p.1, d))) := if_neg HN.out
    generalize (l.filter fun p => !(p.2 == d)) = l2 at *
    have hl2 : l2.length ≤ 1000000 := by omega
    clear hfl
    go_upto_region 3 with fail
    go_wp2_with fail
    refine C1.out.mono ?_
    rintro e W3 ⟨v, rfl, hP⟩
    obtain ⟨A3, c3, rfl, _, _⟩ := hP.slice
    have HQ3 := Lib.hid (hQ.below hP.blw hQ.lt)
    have HR3 := Lib.hid (hR.below hP.blw hR.lt)
    have HP := Lib.hid hP
    clear hP C1 r0 q0 hR hQ
    have C2 := Lib.hid (addRen_any (fun p => p.2 == a) (fun p => (p.1, d)) 110 w.heap.size (w.heap.size + 1) W3.heap.size A3 l2 c3 W3 HP.out.sees (Nat.le_refl _) hl2 HFS.out (ren_srt2 HFS.out d a) (fun args W => enters_of Tryz.func110 (by kernel_rfl) rfl args W) fun x W hW => renM_any d a w.heap.size (w.heap.size + 1) x W ((hW.cell (p := ⟨_, 0, none⟩) HR3.out.lt).trans (HR3.out.cell 0)) ((hW.cell (p := ⟨_, 0, none⟩) HQ3.out.lt).trans (HQ3.out.cell 0)))
    have r0 := HR3.out.cell 0
    have q0 := HQ3.out.cell 0
    simp only [List.getElem?_toArray, List.getElem?_cons_zero] at r0 q0
    go_wp2_with fail
    refine C2.out.mono ?_
    rintro e W4 ⟨v, rfl, hP⟩
    have HP4 := Lib.hid ((hP.base HP.out.blw).base HB2.out)
    clear hP
    go_wp2
    go_ret
    rw [HMN.out]
    exact ⟨_, rfl, HP4.out⟩

set_option maxRecDepth 100000 in
set_option maxHeartbeats 4000000 in
theorem tdefine_any (B : Nat) (A : Option Addr) (l : List Pr) (c : Nat) (d a : Int) (w : World) (hs : Sees w B A (prs l)) (hB : B ≤ w.heap.size) (hm : l.length ≤ 1000000) (hsl : Srt l) :
    Calls Tryz.prog 98 #[.slice A l.length c, .int .i64 d, .int .i64 a] w fun e w' => ∃ v, e = .returned v ∧ PL w v (dfP l d a) w' := by
  have C1 := Lib.hid (dropV_any B A l c d w hs hB hm)
  have hfl := List.length_filter_le (fun p : Pr => !(p.1 == d)) l
  have HFS := Lib.hid (hsl.filter fun p => !(p.1 == d))
  have HMN : Hid (dfP l d a = mkP (((l.filter fun p => !(p.1 == d)).filter fun p => !(p.2 == a)) ++ [(d, a)])) := rfl
  generalize (l.filter fun p => !(p.1 == d)) = l2 at *
  have hl2 : l2.length ≤ 1000000 := by omega
  clear hfl hs hsl
  go_enter Tryz.func98, Tryz.ntmps98
  go_wp2_with fail
  refine C1.out.mono ?_
  rintro e W1 ⟨v, rfl, hP⟩
  obtain ⟨A1, c1, rfl, _, _⟩ := hP.slice
  have HP1 := Lib.hid hP
  clear hP C1
  have C2 := Lib.hid (dropL_any W1.heap.size A1 l2 c1 a W1 HP1.out.sees (Nat.le_refl _) hl2)
  have hfl := List.length_filter_le (fun p : Pr => !(p.2 == a)) l2
  have HFS3 := Lib.hid (HFS.out.filter fun p => !(p.2 == a))
  generalize (l2.filter fun p => !(p.2 == a)) = l3 at *
  have hl3 : l3.length ≤ 1000000 := by omega
  clear hfl
  go_wp2_with fail
  refine C2.out.mono ?_
  rintro e W2 ⟨v, rfl, hP⟩
  obtain ⟨A2, c2, rfl, _, _⟩ := hP.slice
  have HP2 := Lib.hid hP
  clear hP C2
  have C3 := Lib.hid (padd_any W2.heap.size A2 l3 c2 (d, a) W2 HP2.out.sees (Nat.le_refl _) hl3 HFS3.out)
  dsimp only at C3
  go_wp2_with fail
  refine C3.out.mono ?_
  rintro e W3 ⟨v, rfl, hP⟩
  have HP3 := Lib.hid (hP.base (HP1.out.blw.trans (HP2.out.blw.mono HP1.out.blw.size)))
  clear hP C3
  go_wp2
  go_ret
  rw [HMN.out]
  exact ⟨_, rfl, HP3.out⟩

/-! Over lists that are seen. -/

section
variable {w : World} {A : Option Addr} {n c : Nat} {l : List Pr}

theorem copy_ls (d a : Int) (h : LS w A n c l) (hs : Srt l) (hn : n ≤ 500) : Calls Tryz.prog 95 #[.slice A n c, .int .i64 d, .int .i64 a] w (PV w (cpP l d a)) := by
  obtain ⟨rfl, _, _, h4, _⟩ := id h
  exact (tcopy_any w.heap.size A l c d a w h4 (Nat.le_refl _) h.big hs).mono fun _ _ => PV.of (Nat.le_trans (cpP_len _ _ _) (by omega))

theorem move_ls (d a : Int) (h : LS w A n c l) (hs : Srt l) (hn : n ≤ 500) : Calls Tryz.prog 96 #[.slice A n c, .int .i64 d, .int .i64 a] w (PV w (mvP l d a)) := by
  obtain ⟨rfl, _, _, h4, _⟩ := id h
  exact (tmove_any w.heap.size A l c d a w h4 (Nat.le_refl _) h.big hs).mono fun _ _ => PV.of (Nat.le_trans (mvP_len _ _ _) (by omega))

theorem define_ls (d a : Int) (h : LS w A n c l) (hs : Srt l) (hn : n ≤ 500) : Calls Tryz.prog 98 #[.slice A n c, .int .i64 d, .int .i64 a] w (PV w (dfP l d a)) := by
  obtain ⟨rfl, _, _, h4, _⟩ := id h
  exact (tdefine_any w.heap.size A l c d a w h4 (Nat.le_refl _) h.big hs).mono fun _ _ => PV.of (Nat.le_trans (dfP_len _ _ _) (by omega))

end

end Go.Proofs.YtcoehkphdfejjaaGreat
