import Derived.Test.YtcoehkphdfejjaaPk1
import Derived.Deep.RegionHeld3
import Derived.Shelf.SlSortCmp.QuietGrown
import Derived.Lib.Small
import Derived.Deep.Cut
import Derived.Deep.CutRange
import Derived.Deep.DeepMust
import Derived.Laws.StructEq
import Derived.Laws.MakeOwn

/-
  Steps that draw and lay blocks, and turn nothing.
-/
namespace Go.Proofs.Ytcoehkphdfejjaa
open Go.RowKit
set_option linter.unusedVariables false

/-- A step that draws and lays blocks, and turns nothing. -/
def Grew (w w' : World) : Prop := ∃ n os, w' = Go.Sort.grow (w.drewN n) os

theorem Grew.refl (w : World) : Grew w w := ⟨0, #[], by rw [Go.Sort.grow_empty]; rfl⟩

theorem Grew.drewN {w w' : World} (h : Grew w w') (k : Nat) : Grew w (w'.drewN k) := by
  obtain ⟨n, os, rfl⟩ := h
  exact ⟨n + k, os, by rw [← World.drewN_drewN]; rfl⟩

theorem Grew.drew {w w' : World} (h : Grew w w') : Grew w w'.drew := h.drewN 1

theorem Grew.alloc {w w' : World} (h : Grew w w') (o : Obj) : Grew w (w'.alloc o) := by
  obtain ⟨n, os, rfl⟩ := h
  exact ⟨n, os ++ #[o], by rw [Go.Sort.alloc_eq_grow, Go.Sort.grow_grow]⟩

theorem Grew.trans {w w' w'' : World} (h : Grew w w') (k : Grew w' w'') : Grew w w'' := by
  obtain ⟨n, os, rfl⟩ := h
  obtain ⟨m, ot, rfl⟩ := k
  exact ⟨n + m, os ++ ot, by
    rw [← Go.Sort.grow_grow, ← World.drewN_drewN]
    rfl⟩

theorem Grew.below {w w' : World} (h : Grew w w') : Below w.heap.size w w' := by
  obtain ⟨n, os, rfl⟩ := h
  exact ⟨rfl, rfl, rfl, by simp [Go.Sort.grow, World.drewN], fun k hk => by simp [Go.Sort.grow, World.drewN, Array.getElem?_append, hk]⟩

theorem Grew.cell {w w' : World} (h : Grew w w') {p : Addr} {v : Value} (hc : w.cell? p = some v) : w'.cell? p = some v := by
  obtain ⟨n, os, rfl⟩ := h
  exact Go.cell_grown (World.block_lt_of_cell? w _ hc) hc n os

theorem Grew.row {w w' : World} (h : Grew w w') {p : Nat} {T : TypeId} {cs : Array Value} (hr : Row w p T cs) : Row w' p T cs := hr.below h.below hr.lt

theorem Grew.frozen {w w' : World} (h : Grew w w') {p : Nat} {T : TypeId} {cs : Array Value} (hr : Row w p T cs) (i : Nat) : w'.frozen? ⟨p, i, none⟩ = false := (h.row hr).frozen i

end Go.Proofs.Ytcoehkphdfejjaa

/-
  Lists of records of s cells each that a call owns.
-/
namespace Go.Proofs.Ytcoehkphdfejjaa
open Go.RowKit
set_option linter.unusedVariables false

/-- The value v is a list of records in memory of its own, new to the world w; of what was there nothing has turned. -/
structure RL {α : Type} (f : α → List Value) (s : Nat) (T : TypeId) (w : World) (v : Value) (l : List α) (wr : World) : Prop where
  own : wr.ownsRow w.heap.size T s v l.length (l.flatMap f)
  blw : Below w.heap.size w wr

theorem flatS_len {α : Type} {f : α → List Value} {s : Nat} (hs : ∀ x, (f x).length = s) : ∀ l : List α, (l.flatMap f).length = l.length * s
  | [] => by simp
  | x :: r => by rw [List.flatMap_cons, List.length_append, hs, flatS_len hs r, List.length_cons, Nat.succ_mul, Nat.add_comm]

theorem flat_one {α : Type} {f : α → List Value} (h : ∀ x, ∀ u ∈ f x, u.oneCell' = true) (l : List α) : ∀ u ∈ l.flatMap f, u.oneCell' = true := fun u hu => by
  obtain ⟨x, _, hx⟩ := List.mem_flatMap.1 hu
  exact h x u hx

theorem flat_put {α : Type} {f : α → List Value} {s : Nat} (hs : ∀ x, (f x).length = s) {y : α} {j : Nat} {u : Value} (hj : j < s) : ∀ (l : List α) (k : Nat) (hk : k < l.length), f y = (f l[k]).set j u → (l.set k y).flatMap f = (l.flatMap f).set (k * s + j) u
  | x :: r, 0, hk, e => by
    simp only [List.getElem_cons_zero] at e
    rw [List.set_cons_zero, List.flatMap_cons, List.flatMap_cons, e, Nat.zero_mul, Nat.zero_add, List.set_append_left _ _ (by rw [hs]; exact hj)]
  | x :: r, k + 1, hk, e => by
    simp only [List.getElem_cons_succ] at e
    rw [List.set_cons_succ, List.flatMap_cons, List.flatMap_cons, flat_put hs hj r k (by simpa using hk) e, List.set_append_right _ _ (by rw [hs, Nat.succ_mul]; omega), hs, Nat.succ_mul, show k * s + s + j - s = k * s + j by omega]

section
variable {α : Type} {f : α → List Value} {s : Nat} {T : TypeId} {w wr w' : World} {v v' : Value} {l r : List α} {A : Option Addr} {n m c : Nat}

theorem RL.nil (w : World) : RL f s T w (.slice none 0 0) [] w := ⟨⟨by simp, .inl ⟨rfl, rfl⟩⟩, Below.refl _ _⟩

theorem RL.next (h : RL f s T w v l wr) (hb : Below wr.heap.size wr w') : RL f s T w v l w' :=
  ⟨(Mods.of_below (S := No) hb).ownS h.own fun _ _ hs => hs.elim, h.blw.trans (hb.mono h.blw.size)⟩

theorem RL.grew (h : RL f s T w v l wr) (hb : Grew wr w') : RL f s T w v l w' := h.next hb.below

theorem RL.alloc (h : RL f s T w v l wr) (o : Obj) : RL f s T w v l (wr.alloc o) := h.next ((Below.refl _ _).alloc (Nat.le_refl _) o)

theorem RL.base {w0 : World} (h : RL f s T w v l wr) (hb : Below w0.heap.size w0 w) : RL f s T w0 v l wr := ⟨ownS_base h.own hb.size, hb.trans (h.blw.mono hb.size)⟩

theorem RL.slice (h : RL f s T w v l wr) : ∃ A c, v = .slice A l.length c ∧ l.length ≤ c ∧ c ≤ maxLen := ownS_slice h.own

theorem RL.sliceN (h : RL f s T w v l wr) (hn : l.length = n) : ∃ A c, v = .slice A n c ∧ n ≤ c ∧ c ≤ maxLen := by
  subst hn
  exact h.slice

theorem RL.sees (h : RL f s T w (.slice A n c) l wr) : Sees wr wr.heap.size A (l.flatMap f) := by
  obtain ⟨A', c', e, _⟩ := h.slice
  injection e with e1 e2 e3
  subst e2
  exact sees_own h.own

theorem RL.some_ (h : RL f s T w (.slice A n c) l wr) (hn : 0 < n) : ∃ g, A = some ⟨g, 0, none⟩ := by
  rcases h.own.2 with ⟨e, _⟩ | ⟨g', cap, cur, hv, _⟩
  · injection e with _ e2 _
    omega
  · injection hv with e1 _ _
    exact ⟨g', e1⟩

theorem RL.join (h : RL f s T w v l wr) (hn : l.length = n) (hm : r.length = m)
    (ho : w'.ownsRow w.heap.size T s v' (n + m) (l.flatMap f ++ r.flatMap f)) (hg : wr.grownBy w' v.ownBlock) : RL f s T w v' (l ++ r) w' := by
  subst hn hm
  exact ⟨by rw [List.flatMap_append, List.length_append]; exact ho, h.blw.grown hg h.blw.size fun k hk => (ownS_lt h.own k hk).1⟩

theorem RL.push (h : RL f s T w v l wr) (y : α) (hn : l.length = n) {o : Obj}
    (ho : w'.ownsRow w.heap.size T s v' (n + 1) (l.flatMap f ++ f y)) (hg : (wr.alloc o).grownBy w' v.ownBlock) : RL f s T w v' (l ++ [y]) w' :=
  (h.alloc o).join hn rfl (by simpa using ho) hg

theorem RL.snoc (h : RL f s T w v l wr) (y : α) (hn : l.length = n)
    (ho : w'.ownsRow w.heap.size T s v' (n + 1) (l.flatMap f ++ f y)) (hg : wr.grownBy w' v.ownBlock) : RL f s T w v' (l ++ [y]) w' :=
  h.join hn rfl (by simpa using ho) hg

/-- A store into a list of one's own. -/
theorem RL.put {g k j : Nat} {y : α} {u : Value} (h : RL f s T w (.slice (some ⟨g, 0, none⟩) n c) l wr) (hs : ∀ x, (f x).length = s) (hk : k < l.length) (hj : j < s) (e : f y = (f l[k]).set j u) :
    RL f s T w (.slice (some ⟨g, 0, none⟩) n c) (l.set k y) (wr.setCell ⟨g, k * s + j, none⟩ u) := by
  have hlt : k * s + j < (l.flatMap f).length := by
    rw [flatS_len hs]
    have := Nat.mul_le_mul_right s (Nat.succ_le_of_lt hk)
    rw [Nat.succ_mul] at this
    omega
  have h1 := ownS_put h.own (g := g) rfl hlt u
  refine ⟨by rw [List.length_set, flat_put hs hj l k hk e]; exact h1, h.blw.setCell (p := ⟨g, k * s + j, none⟩) (ownS_lt h.own g rfl).1 _⟩

theorem RL.frozen {g k : Nat} (h : RL f s T w (.slice (some ⟨g, 0, none⟩) n c) l wr) : wr.frozen? ⟨g, k, none⟩ = false := by
  rcases h.own.2 with ⟨hv, _⟩ | ⟨g', cap, cur, hv, _, hh, _⟩
  · cases hv
  · injection hv with e _ _
    injection e with e
    injection e with e _ _
    subst e
    exact Row.frozen (T := T) (cs := cur) hh k

/-- A list that is new and empty. -/
theorem RL.empty (w : World) : RL f s T w (.slice (some ⟨w.heap.size, 0, none⟩) 0 0) [] (w.alloc (.cells #[] T)) := ⟨own_empty w T s, (Below.refl _ _).alloc (Nat.le_refl _) _⟩

end

end Go.Proofs.Ytcoehkphdfejjaa

/-
  Pairs, their order, and pair sets as lists: the mathematics of layer 11.
-/
namespace Go.Proofs.Ytcoehkphdfejjaa
set_option linter.unusedVariables false

abbrev Pr := Int × Int

/-- Ordered before: by the register, then by the location. -/
def ltP (p q : Pr) : Bool := decide (p.1 < q.1 ∨ (p.1 = q.1 ∧ p.2 < q.2))

theorem ltP_iff {p q : Pr} : ltP p q = true ↔ p.1 < q.1 ∨ (p.1 = q.1 ∧ p.2 < q.2) := by simp [ltP]

theorem ltP_irrefl (p : Pr) : ltP p p = false := by simp [ltP]

theorem ltP_trans {p q r : Pr} (h : ltP p q = true) (k : ltP q r = true) : ltP p r = true := by
  rw [ltP_iff] at *
  omega

theorem ltP_ntrans {p q r : Pr} (h : ltP p q = false) (k : ltP q r = false) : ltP p r = false := by
  rw [← Bool.not_eq_true, ltP_iff] at *
  omega

theorem pr_eq {p q : Pr} (h1 : p.1 = q.1) (h2 : p.2 = q.2) : p = q := Prod.ext h1 h2

theorem ltP_total {p q : Pr} (h : ltP p q = false) (k : ltP q p = false) : p = q := by
  rw [← Bool.not_eq_true, ltP_iff] at *
  exact pr_eq (by omega) (by omega)

theorem ltP_asymm {p q : Pr} (h : ltP p q = true) : ltP q p = false := by
  rw [← Bool.not_eq_true]
  intro k
  have := ltP_trans h k
  rw [ltP_irrefl] at this
  cases this

theorem ltP_ne {p q : Pr} (h : ltP p q = true) : p ≠ q := by
  intro e
  subst e
  rw [ltP_irrefl] at h
  cases h

theorem ltP_of_le {p q : Pr} (h : ltP q p = false) (k : p ≠ q) : ltP p q = true := by
  rcases Bool.eq_false_or_eq_true (ltP p q) with e | e
  · exact e
  · exact absurd (ltP_total e h) k

theorem ltP_lt_le {p q r : Pr} (h : ltP p q = true) (k : ltP r q = false) : ltP p r = true := by
  rw [← Bool.not_eq_true, ltP_iff] at k
  rw [ltP_iff] at *
  omega

theorem ltP_le_lt {p q r : Pr} (h : ltP q p = false) (k : ltP q r = true) : ltP p r = true := by
  rw [← Bool.not_eq_true, ltP_iff] at h
  rw [ltP_iff] at *
  omega

/-- A pair set: strictly ascending. -/
def Srt (l : List Pr) : Prop := l.Pairwise fun a b => ltP a b = true

theorem Srt.nil : Srt [] := List.Pairwise.nil

theorem Srt.tail {x : Pr} {l : List Pr} (h : Srt (x :: l)) : Srt l := (List.pairwise_cons.1 h).2

theorem Srt.snoc {l : List Pr} {x : Pr} (h : Srt l) (hx : ∀ y ∈ l, ltP y x = true) : Srt (l ++ [x]) := by
  unfold Srt
  rw [List.pairwise_append]
  exact ⟨h, List.pairwise_singleton _ _, fun a ha b hb => by simp at hb; subst hb; exact hx a ha⟩

theorem Srt.lt {l : List Pr} (h : Srt l) {i j : Nat} (hij : i < j) (hj : j < l.length) : ltP (l[i]'(by omega)) l[j] = true := List.pairwise_iff_getElem.1 h i j (by omega) hj hij

theorem Srt.drop {l : List Pr} (h : Srt l) (k : Nat) : Srt (l.drop k) := List.Pairwise.sublist (List.drop_sublist k l) h

theorem Srt.take {l : List Pr} (h : Srt l) (k : Nat) : Srt (l.take k) := List.Pairwise.sublist (List.take_sublist k l) h

/-- Two pair sets with the same pairs are equal. -/
theorem srt_ext : ∀ {l r : List Pr}, Srt l → Srt r → (∀ q, q ∈ l ↔ q ∈ r) → l = r
  | [], [], _, _, _ => rfl
  | [], y :: r, _, _, h => by have := (h y).2 (by simp); simp at this
  | x :: l, [], _, _, h => by have := (h x).1 (by simp); simp at this
  | x :: l, y :: r, hl, hr, h => by
    have hx := List.pairwise_cons.1 hl
    have hy := List.pairwise_cons.1 hr
    have e : x = y := by
      rcases List.mem_cons.1 ((h x).1 (by simp)) with e | e
      · exact e
      · rcases List.mem_cons.1 ((h y).2 (by simp)) with e' | e'
        · exact e'.symm
        · have h1 := hy.1 x e
          have h2 := hx.1 y e'
          rw [ltP_asymm h1] at h2
          cases h2
    subst e
    rw [srt_ext hx.2 hy.2 fun q => ?_]
    constructor
    · intro hq
      rcases List.mem_cons.1 ((h q).1 (List.mem_cons_of_mem _ hq)) with e | e
      · subst e
        have := hx.1 q hq
        rw [ltP_irrefl] at this
        cases this
      · exact e
    · intro hq
      rcases List.mem_cons.1 ((h q).2 (List.mem_cons_of_mem _ hq)) with e | e
      · subst e
        have := hy.1 q hq
        rw [ltP_irrefl] at this
        cases this
      · exact e

/-- One round of the reference's Add: whether the pair is in, and the result so far. -/
def stA (p : Pr) (s : Bool × List Pr) (x : Pr) : Bool × List Pr :=
  let s1 := if s.1 = false ∧ ltP x p = false then (true, s.2 ++ [p]) else s
  if x = p then s1 else (s1.1, s1.2 ++ [x])

def foA (p : Pr) (l : List Pr) : Bool × List Pr := l.foldl (stA p) (false, [])

theorem foA_snoc (p : Pr) (l : List Pr) (x : Pr) : foA p (l ++ [x]) = stA p (foA p l) x := by simp [foA]

/-- What the reference's Add returns. -/
def addP (l : List Pr) (p : Pr) : List Pr := if (foA p l).1 then (foA p l).2 else (foA p l).2 ++ [p]

/-- What is known of the reference's Add after some pairs of a set. -/
structure OkA (p : Pr) (l : List Pr) (s : Bool × List Pr) : Prop where
  srt : Srt s.2
  mem : ∀ q, q ∈ s.2 ↔ q ∈ l ∨ (s.1 = true ∧ q = p)
  low : s.1 = false → ∀ q ∈ l, ltP q p = true
  hi : s.1 = true → ∃ y ∈ l, ltP y p = false
  len : s.2.length ≤ l.length + 1
  len0 : s.1 = false → s.2.length ≤ l.length

theorem Srt.init {l : List Pr} {x : Pr} (h : Srt (l ++ [x])) : Srt l ∧ ∀ y ∈ l, ltP y x = true := by
  unfold Srt at h
  rw [List.pairwise_append] at h
  exact ⟨h.1, fun y hy => h.2.2 y hy x (by simp)⟩

theorem okA_nil (p : Pr) : OkA p [] (false, []) := ⟨Srt.nil, fun q => by simp, fun _ q hq => by simp at hq, fun h => by simp at h, by simp, fun _ => by simp⟩

theorem okA_snoc {p : Pr} {r : List Pr} {s : Bool × List Pr} {x : Pr} (hl : Srt (r ++ [x])) (h : OkA p r s) : OkA p (r ++ [x]) (stA p s x) := by
  obtain ⟨hsr, hx⟩ := hl.init
  obtain ⟨h1, h2, h3, hh, h4, h5⟩ := h
  obtain ⟨d, o⟩ := s
  dsimp only at h1 h2 h3 h4 h5 hh
  unfold stA
  dsimp only
  by_cases hd : d = false ∧ ltP x p = false
  · rw [if_pos hd]
    obtain ⟨rfl, hxp⟩ := hd
    have hlow := h3 rfl
    have hmem : ∀ q, q ∈ o ↔ q ∈ r := fun q => by simpa using h2 q
    have hop : ∀ y ∈ o, ltP y p = true := fun y hy => hlow y ((hmem y).1 hy)
    have hlen := h5 rfl
    by_cases hxe : x = p
    · rw [if_pos hxe]
      subst hxe
      exact ⟨Srt.snoc h1 hop, fun q => by simp [hmem], fun h => by simp at h, fun _ => ⟨x, by simp, ltP_irrefl x⟩, by simp; omega, fun h => by simp at h⟩
    · rw [if_neg hxe]
      have hpx : ltP p x = true := ltP_of_le hxp (fun e => hxe e.symm)
      refine ⟨Srt.snoc (Srt.snoc h1 hop) ?_, fun q => ?_, fun h => by simp at h, fun _ => ⟨x, by simp, hxp⟩, by simp; omega, fun h => by simp at h⟩
      · intro y hy
        rcases List.mem_append.1 hy with hy | hy
        · exact ltP_trans (hop y hy) hpx
        · simp at hy; subst hy; exact hpx
      · simp only [List.mem_append, List.mem_singleton, hmem, true_and, or_assoc]
        constructor
        · rintro (h | h | h)
          · exact .inl h
          · exact .inr (.inr h)
          · exact .inr (.inl h)
        · rintro (h | h | h)
          · exact .inl h
          · exact .inr (.inr h)
          · exact .inr (.inl h)
  · rw [if_neg hd]
    by_cases hxe : x = p
    · rw [if_pos hxe]
      subst hxe
      have hdt : d = true := by
        cases d
        · exact absurd ⟨rfl, ltP_irrefl x⟩ hd
        · rfl
      subst hdt
      refine ⟨h1, fun q => ?_, fun h => by simp at h, fun _ => ⟨x, by simp, ltP_irrefl x⟩, by simp; omega, fun h => by simp at h⟩
      simp only [List.mem_append, List.mem_singleton, true_and, h2, or_assoc, or_self]
    · rw [if_neg hxe]
      cases d
      · have hxp : ltP x p = true := by
          rcases Bool.eq_false_or_eq_true (ltP x p) with e | e
          · exact e
          · exact absurd ⟨rfl, e⟩ hd
        have hmem : ∀ q, q ∈ o ↔ q ∈ r := fun q => by simpa using h2 q
        have hlen := h5 rfl
        refine ⟨Srt.snoc h1 fun y hy => hx y ((hmem y).1 hy), fun q => by simp [hmem], fun _ q hq => ?_, fun h => by simp at h, by simp; omega, fun _ => by simp; omega⟩
        rcases List.mem_append.1 hq with hq | hq
        · exact h3 rfl q hq
        · simp at hq; subst hq; exact hxp
      · obtain ⟨y, hy, hyp⟩ := hh rfl
        have hpx : ltP p x = true := ltP_le_lt hyp (hx y hy)
        refine ⟨Srt.snoc h1 fun z hz => ?_, fun q => ?_, fun h => by simp at h, fun _ => ⟨y, by simp [hy], hyp⟩, by simp; omega, fun h => by simp at h⟩
        · rcases (h2 z).1 hz with hz | ⟨_, rfl⟩
          · exact hx z hz
          · exact hpx
        · simp only [List.mem_append, List.mem_singleton, true_and, h2, or_assoc]
          constructor
          · rintro (h | h | h)
            · exact .inl h
            · exact .inr (.inr h)
            · exact .inr (.inl h)
          · rintro (h | h | h)
            · exact .inl h
            · exact .inr (.inr h)
            · exact .inr (.inl h)

theorem okA (p : Pr) : ∀ (k : Nat) (l : List Pr), l.length = k → Srt l → OkA p l (foA p l)
  | 0, l, hk, _ => by
    obtain rfl := List.eq_nil_of_length_eq_zero hk
    exact okA_nil p
  | k + 1, l, hk, hs => by
    rcases List.eq_nil_or_concat l with rfl | ⟨r, x, rfl⟩
    · simp at hk
    rw [List.concat_eq_append] at *
    rw [foA_snoc]
    exact okA_snoc hs (okA p k r (by simpa using hk) hs.init.1)

theorem addP_ok {l : List Pr} (p : Pr) (h : Srt l) : Srt (addP l p) ∧ (∀ q, q ∈ addP l p ↔ q ∈ l ∨ q = p) ∧ (addP l p).length ≤ l.length + 1 := by
  obtain ⟨h1, h2, h3, hh, h4, h5⟩ := okA p l.length l rfl h
  unfold addP
  cases hd : (foA p l).1
  · have hm : ∀ q, q ∈ (foA p l).2 ↔ q ∈ l := fun q => by simpa [hd] using h2 q
    simp only [Bool.false_eq_true, if_false]
    refine ⟨Srt.snoc h1 fun y hy => h3 hd y ((hm y).1 hy), fun q => by simp [hm], ?_⟩
    have := h5 hd
    simp; omega
  · simp only [if_true]
    exact ⟨h1, fun q => by simpa [hd] using h2 q, h4⟩

/-- The reference's Make. -/
def mkP (l : List Pr) : List Pr := l.foldl addP []

theorem mkP_snoc (l : List Pr) (x : Pr) : mkP (l ++ [x]) = addP (mkP l) x := by simp [mkP]

theorem mkP_ok : ∀ (k : Nat) (l : List Pr), l.length = k → Srt (mkP l) ∧ (∀ q, q ∈ mkP l ↔ q ∈ l) ∧ (mkP l).length ≤ l.length
  | 0, l, hk => by
    obtain rfl := List.eq_nil_of_length_eq_zero hk
    exact ⟨Srt.nil, fun q => Iff.rfl, Nat.le_refl _⟩
  | k + 1, l, hk => by
    rcases List.eq_nil_or_concat l with rfl | ⟨r, x, rfl⟩
    · simp at hk
    rw [List.concat_eq_append] at *
    obtain ⟨h1, h2, h3⟩ := mkP_ok k r (by simpa using hk)
    obtain ⟨g1, g2, g3⟩ := addP_ok x h1
    rw [mkP_snoc]
    exact ⟨g1, fun q => by simp [g2, h2], by simp; omega⟩

theorem mkP_srt (l : List Pr) : Srt (mkP l) := (mkP_ok _ l rfl).1

theorem mem_mkP {l : List Pr} {q : Pr} : q ∈ mkP l ↔ q ∈ l := (mkP_ok _ l rfl).2.1 q

theorem mkP_len (l : List Pr) : (mkP l).length ≤ l.length := (mkP_ok _ l rfl).2.2

/-- A pair set is what Make makes of whatever list has its pairs. -/
theorem mkP_eq {l r : List Pr} (hr : Srt r) (h : ∀ q, q ∈ r ↔ q ∈ l) : r = mkP l := srt_ext hr (mkP_srt l) fun q => (h q).trans mem_mkP.symm

theorem mkP_self {l : List Pr} (h : Srt l) : mkP l = l := (mkP_eq h fun _ => Iff.rfl).symm

theorem mkP_congr {l r : List Pr} (h : ∀ q, q ∈ l ↔ q ∈ r) : mkP l = mkP r := mkP_eq (mkP_srt l) fun q => mem_mkP.trans (h q)

theorem addP_eq {l : List Pr} {p : Pr} (h : Srt l) : addP l p = mkP (l ++ [p]) := mkP_eq (addP_ok p h).1 fun q => by simp [(addP_ok p h).2.1 q]

/-- Whether a pair is in a list. -/
def hasP (l : List Pr) (p : Pr) : Bool := decide (p ∈ l)

/-- The first pair of a that is not in b. -/
def misP (a b : List Pr) : Option Pr := a.find? fun x => !hasP b x

theorem misP_none {a b : List Pr} : misP a b = none ↔ ∀ x ∈ a, x ∈ b := by simp [misP, hasP]

theorem misP_take {a b : List Pr} {i : Nat} (hi : i < a.length) (h : ∀ x ∈ a.take i, x ∈ b) (hn : a[i] ∉ b) : misP a b = some a[i] := by
  have e : a = a.take i ++ a[i] :: a.drop (i + 1) := by simp
  have e1 : (a.take i).find? (fun x => !hasP b x) = none := List.find?_eq_none.2 (by simpa [hasP] using h)
  have e2 : (a[i] :: a.drop (i + 1)).find? (fun x => !hasP b x) = some a[i] := List.find?_cons_of_pos (by simp [hasP, hn])
  unfold misP
  refine (congrArg (List.find? fun x => !hasP b x) e).trans ?_
  rw [List.find?_append, e1, Option.none_or, e2]

/-- Whether a list is a pair set. -/
def srtB (l : List Pr) : Bool := (List.range (l.length - 1)).all fun i => ltP (l.getD i (0, 0)) (l.getD (i + 1) (0, 0))

theorem getD_get {l : List Pr} {i : Nat} (hi : i < l.length) : l.getD i (0, 0) = l[i] := by simp [List.getD, hi]

theorem srtB_yes {l : List Pr} (h : ∀ i, i + 1 < l.length → ltP (l.getD i (0, 0)) (l.getD (i + 1) (0, 0)) = true) : srtB l = true := by
  unfold srtB
  rw [List.all_eq_true]
  intro i hi
  exact h i (by have := List.mem_range.1 hi; omega)

theorem srtB_no {l : List Pr} {i : Nat} (hi : i + 1 < l.length) (h : ltP (l.getD i (0, 0)) (l.getD (i + 1) (0, 0)) = false) : srtB l = false := by
  rw [← Bool.not_eq_true]
  unfold srtB
  intro e
  rw [List.all_eq_true] at e
  have := e i (List.mem_range.2 (by omega))
  rw [h] at this
  cases this

theorem srtB_of {l : List Pr} (h : Srt l) : srtB l = true := srtB_yes fun i hi => by
  rw [getD_get hi, getD_get (by omega)]
  exact h.lt (by omega) hi

theorem mem_take_succ {l : List Pr} {i : Nat} (hi : i < l.length) {q : Pr} : q ∈ l.take (i + 1) ↔ q ∈ l.take i ∨ q = l[i] := by
  rw [List.take_succ_eq_append_getElem hi, List.mem_append, List.mem_singleton]

theorem drop_head {l : List Pr} {i : Nat} (hi : i < l.length) {q : Pr} : q ∈ l.drop i ↔ q = l[i] ∨ q ∈ l.drop (i + 1) := by
  rw [List.drop_eq_getElem_cons hi, List.mem_cons]

theorem Srt.head_lt {l : List Pr} (h : Srt l) {i : Nat} (hi : i < l.length) {q : Pr} (hq : q ∈ l.drop (i + 1)) : ltP l[i] q = true := by
  have := h.drop i
  rw [List.drop_eq_getElem_cons hi] at this
  exact (List.pairwise_cons.1 this).1 q hq

/-- Pairs as cells. -/
def prs (l : List Pr) : List Value := l.flatMap fun p => [.int .i64 p.1, .int .i64 p.2]

theorem prs_nil : prs [] = [] := rfl

theorem prs_length (l : List Pr) : (prs l).length = l.length * 2 := by
  induction l with
  | nil => rfl
  | cons x r ih => simp only [prs, List.flatMap_cons, List.length_append, List.length_cons, List.length_nil] at *; omega

theorem prs_append (l r : List Pr) : prs (l ++ r) = prs l ++ prs r := by simp [prs]

theorem prs_one (l : List Pr) : ∀ u ∈ prs l, u.oneCell' = true := by
  intro u hu
  obtain ⟨p, _, hp⟩ := List.mem_flatMap.1 hu
  simp at hp
  rcases hp with rfl | rfl <;> rfl

theorem prs_get : ∀ {l : List Pr} {i : Nat} (hi : i < l.length), (prs l)[i * 2]? = some (.int .i64 l[i].1) ∧ (prs l)[i * 2 + 1]? = some (.int .i64 l[i].2)
  | [], _, h => by simp at h
  | x :: r, 0, _ => by simp [prs]
  | x :: r, i + 1, h => by
    have := prs_get (l := r) (i := i) (by simpa using h)
    simp only [List.getElem_cons_succ]
    refine ⟨?_, ?_⟩
    · rw [show (i + 1) * 2 = i * 2 + 1 + 1 by omega]
      exact this.1
    · rw [show (i + 1) * 2 + 1 = i * 2 + 1 + 1 + 1 by omega]
      exact this.2

theorem prs_take (l : List Pr) (k : Nat) : (prs l).take (k * 2) = prs (l.take k) := by
  induction l generalizing k with
  | nil => simp [prs]
  | cons x r ih =>
    rcases k with _ | k
    · simp [prs]
    · rw [show (k + 1) * 2 = k * 2 + 1 + 1 by omega]
      simp only [prs, List.flatMap_cons, List.cons_append, List.nil_append, List.take_succ_cons] at *
      rw [ih k]

theorem prs_drop (l : List Pr) (k : Nat) : (prs l).drop (k * 2) = prs (l.drop k) := by
  induction l generalizing k with
  | nil => simp [prs]
  | cons x r ih =>
    rcases k with _ | k
    · simp [prs]
    · rw [show (k + 1) * 2 = k * 2 + 1 + 1 by omega]
      simp only [prs, List.flatMap_cons, List.cons_append, List.nil_append, List.drop_succ_cons] at *
      rw [ih k]

theorem prs_inj {l r : List Pr} (h : prs l = prs r) : l = r := by
  induction l generalizing r with
  | nil =>
    have := congrArg List.length h
    rw [prs_length, prs_length, List.length_nil] at this
    exact (List.eq_nil_of_length_eq_zero (by omega)).symm
  | cons x l ih =>
    rcases r with _ | ⟨y, r⟩
    · simp [prs] at h
    · simp only [prs, List.flatMap_cons, List.cons_append, List.nil_append, List.cons.injEq, Value.int.injEq, true_and] at h
      rw [pr_eq h.1 h.2.1, ih h.2.2]

/-- A pair of a slice that is seen. -/
theorem sees_pair {w : World} {B : Nat} {A : Option Addr} {l : List Pr} (h : Sees w B A (prs l)) {i : Nat} (hi : i < l.length) :
    ∃ b o, A = some ⟨b, o, none⟩ ∧ b < B ∧ w.cell? ⟨b, o + i * 2, none⟩ = some (.int .i64 l[i].1) ∧ w.cell? ⟨b, o + i * 2 + 1, none⟩ = some (.int .i64 l[i].2) := by
  obtain ⟨b, o, e, hb, hc⟩ := h (by
    intro e
    have := congrArg List.length e
    rw [prs_length, List.length_nil] at this
    omega)
  exact ⟨b, o, e, hb, hc _ _ (prs_get hi).1, by rw [Nat.add_assoc]; exact hc _ _ (prs_get hi).2⟩

end Go.Proofs.Ytcoehkphdfejjaa

/-
  The order of pairs: cmp.Compare, cmp.Or, compare, Less of both.
-/
namespace Go.Proofs.Ytcoehkphdfejjaa
open Go.RowKit
set_option linter.unusedVariables false

def orP (x y : Int) : Int := if x = 0 then y else x

theorem orP_0 {x : Int} (h : x = 0) (y : Int) : orP x y = y := if_pos h

theorem orP_1 {x : Int} (h : ¬ x = 0) (y : Int) : orP x y = x := if_neg h

/-- What the program's comparison gives. -/
def cmpP (p q : Pr) : Int := orP (Lib.compareInt p.1 q.1) (Lib.compareInt p.2 q.2)

theorem cmpP_lt (p q : Pr) : decide (cmpP p q < 0) = ltP p q := by
  unfold cmpP orP ltP Lib.compareInt
  by_cases h1 : p.1 < q.1
  · simp [h1]
  · by_cases h2 : q.1 < p.1
    · have h3 : ¬ p.1 = q.1 := by omega
      simp [h1, h2, h3]
    · have h3 : p.1 = q.1 := by omega
      by_cases h4 : p.2 < q.2
      · simp [h3, h4]
      · by_cases h5 : q.2 < p.2
        · simp [h3, h4, h5]
        · simp [h3, h4, h5]

theorem cmpP_zero (p q : Pr) : (cmpP p q == 0) = decide (p = q) := by
  unfold cmpP orP Lib.compareInt
  by_cases h1 : p.1 < q.1
  · have : p ≠ q := fun e => by subst e; omega
    simp [h1, this]
  · by_cases h2 : q.1 < p.1
    · have : p ≠ q := fun e => by subst e; omega
      simp [h1, h2, this]
    · have h3 : p.1 = q.1 := by omega
      by_cases h4 : p.2 < q.2
      · have : p ≠ q := fun e => by subst e; omega
        simp [h3, h4, this]
      · by_cases h5 : q.2 < p.2
        · have : p ≠ q := fun e => by subst e; omega
          simp [h3, h4, h5, this]
        · have : p = q := pr_eq h3 (by omega)
          simp [this]

theorem eq_pr (p q : Pr) (w : World) : (binOp .eql 66 (.agg #[.int .i64 p.1, .int .i64 p.2]) (.agg #[.int .i64 q.1, .int .i64 q.2])).run Try.prog w = .ok (.bool (decide (p = q))) w := by
  have u3 := Try.underlying3
  have a3 := Try.isAgg3
  have z3 := Try.sizeOf3
  have u23 := Try.underlying64
  have a23 := Try.isAgg64
  have z23 := Try.sizeOf64
  have hS : Try.prog.underlying 66 = some (.struct (Try.prog.fieldsOf 66)) := by kernel_rfl
  have hp : Try.prog.stoodInHeld 66 = false := by kernel_rfl
  rw [run_eql_struct, show (10000 : Nat) = 9999 + 1 from rfl, run_equalIn_agg w 9999 66 _ _ hS hp]
  simp only [Program.fieldsOf, Try.underlying66]
  obtain ⟨p1, p2⟩ := p
  obtain ⟨q1, q2⟩ := q
  go_simp
  by_cases h1 : p1 = q1 <;> by_cases h2 : p2 = q2 <;> simp [h1, h2]

theorem neq_pr (p q : Pr) (w : World) : (binOp .neq 66 (.agg #[.int .i64 p.1, .int .i64 p.2]) (.agg #[.int .i64 q.1, .int .i64 q.2])).run Try.prog w = .ok (.bool (!decide (p = q))) w := by
  have u3 := Try.underlying3
  have a3 := Try.isAgg3
  have z3 := Try.sizeOf3
  have u23 := Try.underlying64
  have a23 := Try.isAgg64
  have z23 := Try.sizeOf64
  have hS : Try.prog.underlying 66 = some (.struct (Try.prog.fieldsOf 66)) := by kernel_rfl
  have hp : Try.prog.stoodInHeld 66 = false := by kernel_rfl
  rw [run_neq_struct, show (10000 : Nat) = 9999 + 1 from rfl, run_equalIn_agg w 9999 66 _ _ hS hp]
  simp only [Program.fieldsOf, Try.underlying66]
  obtain ⟨p1, p2⟩ := p
  obtain ⟨q1, q2⟩ := q
  go_simp
  by_cases h1 : p1 = q1 <;> by_cases h2 : p2 = q2 <;> simp [h1, h2]

theorem guard_pr : Try.prog.eqGuardType Try.prog.depth 66 = false := by kernel_rfl

end Go.Proofs.Ytcoehkphdfejjaa

/-
  The reference's Same; Sorted of both.
-/
namespace Go.Proofs.Ytcoehkphdfejjaa
open Go.RowKit
set_option linter.unusedVariables false

theorem take_same {l r : List Pr} {k : Nat} (h : l.take k = r.take k) (hl : k < l.length) (hr : k < r.length) (he : l[k] = r[k]) : l.take (k + 1) = r.take (k + 1) := by
  rw [List.take_succ_eq_append_getElem hl, List.take_succ_eq_append_getElem hr, h, he]

set_option maxRecDepth 100000 in
set_option maxHeartbeats 1000000 in
theorem prsame_any (B : Nat) (A A' : Option Addr) (l r : List Pr) (c c' : Nat) (w : World) (hs : Sees w B A (prs l)) (hs' : Sees w B A' (prs r)) (hm : l.length ≤ maxLen) (hm' : r.length ≤ maxLen) :
    Calls Try.prog 51 #[.slice A l.length c, .slice A' r.length c'] w fun e w' => e = .returned (.bool (decide (l = r))) ∧ Grew w w' := by
  unfold maxLen at hm hm'
  have hG := guard_pr
  obtain ⟨bb, hbb⟩ : ∃ b, b = decide (l = r) := ⟨_, rfl⟩
  rw [← hbb]
  have HBB := Lib.hid hbb
  clear hbb
  have HG := Lib.hid (Grew.refl w)
  by_cases hlen : l.length = r.length
  · have e1 : ((l.length : Int) != (r.length : Int)) = false := by simp [hlen]
    have HL := Lib.hid hlen
    clear hlen
    go_enter Try.func51, Try.ntmps51
    go_wp2
    go_loopw [5] (fun i wr => ∃ k n : Nat, k ≤ l.length ∧ i = .int .i64 k ∧ Hid (l.take k = r.take k) ∧ wr = w.drewN n) (fun i _ => l.length - (intOf i).toNat)
    case atStart => exact ⟨0, 0, Nat.zero_le _, rfl, by simp [Hid], rfl⟩
    case round =>
      obtain ⟨k, n, hk, rfl, HT, rfl⟩ := hrel
      by_cases hlt : k < l.length
      · have hltr : k < r.length := by have := HL.out; omega
        obtain ⟨b, o, rfl, _, hc0, hc1⟩ := sees_pair hs hlt
        obtain ⟨b', o', rfl, _, hd0, hd1⟩ := sees_pair hs' hltr
        have hq : ∀ W, (binOp .neq 66 (.agg #[.int .i64 l[k].1, .int .i64 l[k].2]) (.agg #[.int .i64 r[k].1, .int .i64 r[k].2])).run Try.prog W = .ok (.bool (!decide (l[k] = r[k]))) W := fun W => neq_pr _ _ W
        by_cases hxy : l[k] = r[k]
        · have HS := Lib.hid (take_same HT.out hlt hltr hxy)
          have hq' : (!decide (l[k] = r[k])) = false := by simp [hxy]
          rw [hq'] at hq
          clear hs hs' HT hxy hq'
          generalize l[k].1 = x1 at *
          generalize l[k].2 = x2 at *
          generalize r[k].1 = y1 at *
          generalize r[k].2 = y2 at *
          go_wp2
          go_quiet (fail)
          go_wp2
          go_roundw
          case rel => exact ⟨k + 1, _, by omega, by go_num, HS.out, rfl⟩
          case measure => simp [intOf]; omega
        · have HE := Lib.hid (show decide (l = r) = false from decide_eq_false fun e => hxy (by subst e; rfl))
          have hq' : (!decide (l[k] = r[k])) = true := by simp [hxy]
          rw [hq'] at hq
          clear hs hs' HT hxy hq'
          generalize l[k].1 = x1 at *
          generalize l[k].2 = x2 at *
          generalize r[k].1 = y1 at *
          generalize r[k].2 = y2 at *
          go_wp2
          go_quiet (fail)
          go_wp2
          go_ret
          rw [HBB.out, HE.out]
          exact ⟨rfl, (HG.out.drewN _).drewN _⟩
      · have HE := Lib.hid (show decide (l = r) = true from decide_eq_true (by have hl := HL.out; have ht := HT.out; rw [List.take_of_length_le (by omega), List.take_of_length_le (by omega)] at ht; exact ht))
        clear HT hs hs'
        go_wp2
        go_ret
        rw [HBB.out, HE.out]
        exact ⟨rfl, HG.out.drewN _⟩
  · have HE := Lib.hid (show decide (l = r) = false from decide_eq_false fun e => hlen (by rw [e]))
    have e1 : ((l.length : Int) != (r.length : Int)) = true := by simp; omega
    clear hlen
    go_enter Try.func51, Try.ntmps51
    go_wp2
    go_ret
    rw [HBB.out, HE.out]
    exact ⟨rfl, HG.out⟩

end Go.Proofs.Ytcoehkphdfejjaa

/-
  Lists of pairs that a call owns.
-/
namespace Go.Proofs.Ytcoehkphdfejjaa
open Go.RowKit
set_option linter.unusedVariables false

theorem infoPr : (Try.prog.info? 66).map (fun i => (i.zero, i.size, i.bytes)) = some (some (.agg #[.int .i64 0, .int .i64 0]), 2, 16) := by kernel_rfl

theorem info_pr : ∃ i : TypeInfo, Try.prog.info? 66 = some i ∧ i.zero = some (.agg #[.int .i64 0, .int .i64 0]) ∧ i.size = 2 ∧ i.bytes = 16 := by
  have h := infoPr
  rcases hi : Try.prog.info? 66 with _ | i
  · rw [hi] at h; simp at h
  · rw [hi] at h
    simp only [Option.map_some, Option.some.injEq, Prod.mk.injEq] at h
    exact ⟨i, rfl, h.1, h.2.1, h.2.2⟩

/-- The value v is a list of pairs in memory of its own, new to the world w; of what was there nothing has turned. -/
structure PL (w : World) (v : Value) (l : List Pr) (wr : World) : Prop where
  own : wr.ownsRow w.heap.size 66 2 v l.length (prs l)
  blw : Below w.heap.size w wr


/-- The block of a pair that is appended. -/
abbrev prObj (x1 x2 : Int) : Obj := .cells #[.int .i64 x1, .int .i64 x2] 66

section
variable {w wr w' : World} {v : Value} {l : List Pr}

theorem PL.nil (w : World) : PL w (.slice none 0 0) [] w := ⟨⟨by simp [prs], .inl ⟨rfl, rfl⟩⟩, Below.refl _ _⟩

theorem PL.next (h : PL w v l wr) (hb : Below wr.heap.size wr w') : PL w v l w' :=
  ⟨(Mods.of_below (S := No) hb).ownS h.own fun _ _ hs => hs.elim, h.blw.trans (hb.mono h.blw.size)⟩

theorem PL.grew (h : PL w v l wr) (hb : Grew wr w') : PL w v l w' := h.next hb.below

theorem PL.alloc (h : PL w v l wr) (o : Obj) : PL w v l (wr.alloc o) := h.next ((Below.refl _ _).alloc (Nat.le_refl _) o)

theorem PL.slice (h : PL w v l wr) : ∃ A c, v = .slice A l.length c ∧ l.length ≤ c ∧ c ≤ maxLen := ownS_slice h.own

theorem PL.sees {A : Option Addr} {n c : Nat} (h : PL w (.slice A n c) l wr) : Sees wr wr.heap.size A (prs l) := by
  obtain ⟨A', c', e, _⟩ := h.slice
  injection e with e1 e2 e3
  subst e2
  exact sees_own h.own

theorem PL.base {w0 : World} (h : PL w v l wr) (hb : Below w0.heap.size w0 w) : PL w0 v l wr :=
  ⟨ownS_base h.own hb.size, hb.trans (h.blw.mono hb.size)⟩

theorem PL.push (h : PL w v l wr) (x1 x2 : Int) {v' : Value} {n : Nat} (hn : n = l.length)
    (ho : w'.ownsRow w.heap.size 66 2 v' (n + 1) (prs l ++ prs [(x1, x2)])) (hg : (wr.alloc (prObj x1 x2)).grownBy w' v.ownBlock) : PL w v' (l ++ [(x1, x2)]) w' := by
  subst hn
  refine ⟨by rw [prs_append, List.length_append]; exact ho, ?_⟩
  have hb : Below w.heap.size w (wr.alloc (prObj x1 x2)) := (h.alloc _).blw
  exact hb.grown hg hb.size fun k hk => (ownS_lt h.own k hk).1

theorem new_sees (wr : World) (x1 x2 : Int) : Sees (wr.alloc (prObj x1 x2)) (wr.heap.size + 1) (some ⟨wr.heap.size, 0, none⟩) (prs [(x1, x2)]) := sees_new wr #[.int .i64 x1, .int .i64 x2] 66

end

end Go.Proofs.Ytcoehkphdfejjaa

/-
  The reference's Add and Make.
-/
namespace Go.Proofs.Ytcoehkphdfejjaa
open Go.RowKit
set_option linter.unusedVariables false

theorem stA_t (p : Pr) (o : List Pr) (x : Pr) (he : x = p) : stA p (true, o) x = (true, o) := by simp [stA, he]

theorem stA_tn (p : Pr) (o : List Pr) (x : Pr) (he : ¬ x = p) : stA p (true, o) x = (true, o ++ [x]) := by simp [stA, he]

theorem stA_f (p : Pr) (o : List Pr) (x : Pr) (hl : ltP x p = true) (he : x = p) : stA p (false, o) x = (false, o) := by subst he; simp [stA, hl]

theorem stA_fn (p : Pr) (o : List Pr) (x : Pr) (hl : ltP x p = true) (he : ¬ x = p) : stA p (false, o) x = (false, o ++ [x]) := by simp [stA, hl, he]

theorem stA_p (p : Pr) (o : List Pr) (x : Pr) (hl : ltP x p = false) (he : x = p) : stA p (false, o) x = (true, o ++ [p]) := by subst he; simp [stA, hl]

theorem stA_pn (p : Pr) (o : List Pr) (x : Pr) (hl : ltP x p = false) (he : ¬ x = p) : stA p (false, o) x = (true, o ++ [p] ++ [x]) := by simp [stA, hl, he]

theorem stA_len (p : Pr) (s : Bool × List Pr) (x : Pr) : (stA p s x).2.length ≤ s.2.length + 2 := by
  unfold stA
  dsimp only
  split <;> split <;> simp <;> omega

theorem foA_len (p : Pr) : ∀ (k : Nat) (l : List Pr), l.length = k → (foA p l).2.length ≤ 2 * k
  | 0, l, hk => by
    obtain rfl := List.eq_nil_of_length_eq_zero hk
    simp [foA]
  | k + 1, l, hk => by
    rcases List.eq_nil_or_concat l with rfl | ⟨r, x, rfl⟩
    · simp at hk
    rw [List.concat_eq_append] at *
    rw [foA_snoc]
    have := stA_len p (foA p r) x
    have := foA_len p k r (by simpa using hk)
    omega

theorem foA_take (p : Pr) {l : List Pr} {k : Nat} (hk : k < l.length) : foA p (l.take (k + 1)) = stA p (foA p (l.take k)) l[k] := by
  rw [List.take_succ_eq_append_getElem hk, foA_snoc]

end Go.Proofs.Ytcoehkphdfejjaa

/-
  Missing of both.
-/
namespace Go.Proofs.Ytcoehkphdfejjaa
open Go.RowKit
set_option linter.unusedVariables false

/-- What Missing returns. -/
def mres : Option Pr → Value
  | some p => .tuple #[.agg #[.int .i64 p.1, .int .i64 p.2], .bool true]
  | none => .tuple #[.agg #[.int .i64 0, .int .i64 0], .bool false]

end Go.Proofs.Ytcoehkphdfejjaa

/-
  The program's Missing and Subset.
-/
namespace Go.Proofs.Ytcoehkphdfejjaa
open Go.RowKit
set_option linter.unusedVariables false

/-- What is left of b while Missing goes through a. -/
structure BAt (w : World) (B : Nat) (b : List Pr) (j n : Nat) (A : Option Addr) (c : Nat) : Prop where
  len : n + j = b.length
  cap : n ≤ c
  cmx : c ≤ maxLen
  see : Sees w B A (prs (b.drop j))

theorem BAt.get {w : World} {B : Nat} {b : List Pr} {j n : Nat} {A : Option Addr} {c : Nat} (h : BAt w B b j n A c) (hn : 0 < n) : ∃ bb oo, A = some ⟨bb, oo, none⟩ ∧ bb < B ∧ w.cell? ⟨bb, oo, none⟩ = some (.int .i64 (b[j]'(by have := h.len; omega)).1) ∧ w.cell? ⟨bb, oo + 1, none⟩ = some (.int .i64 (b[j]'(by have := h.len; omega)).2) := by
  have hl := h.len
  obtain ⟨bb, oo, e, hb, h0, h1⟩ := sees_pair h.see (i := 0) (by simp; omega)
  simp only [Nat.zero_mul, Nat.add_zero, List.getElem_drop] at h0 h1
  exact ⟨bb, oo, e, hb, h0, h1⟩

theorem BAt.next {w : World} {B : Nat} {b : List Pr} {j n bb oo : Nat} {c : Nat} (h : BAt w B b j (n + 1) (some ⟨bb, oo, none⟩) c) {A' : Option Addr} (hA : A' = if c = 1 then some ⟨bb, oo, none⟩ else some ⟨bb, oo + 2, none⟩) : BAt w B b (j + 1) n A' (c - 1) := by
  have hl := h.len
  have hc := h.cap
  have hm := h.cmx
  refine ⟨by omega, by omega, by omega, fun hn => ?_⟩
  have hn0 : 0 < n := by
    rcases Nat.eq_zero_or_pos n with h0 | h0
    · subst h0
      rw [List.drop_of_length_le (by omega)] at hn
      exact absurd rfl hn
    · exact h0
  rw [if_neg (by omega)] at hA
  obtain ⟨b1, o1, e, hb, hcell⟩ := h.see (by
    intro e
    have := congrArg List.length e
    rw [prs_length, List.length_drop, List.length_nil] at this
    omega)
  injection e with e
  injection e with e1 e2
  subst e1
  subst e2
  refine ⟨bb, oo + 2, hA, hb, fun i u hu => ?_⟩
  rw [Nat.add_assoc]
  refine hcell _ u ?_
  have e3 : prs (b.drop (j + 1)) = (prs (b.drop j)).drop (1 * 2) := by rw [prs_drop, List.drop_drop]
  rw [e3, List.getElem?_drop] at hu
  exact hu

theorem srt_lt_all {b : List Pr} (h : Srt b) {j : Nat} {p : Pr} (hj : j < b.length) (h1 : ∀ y ∈ b.take j, ltP y p = true) (h2 : ltP b[j] p = false) (h3 : b[j] ≠ p) : p ∉ b := by
  intro hp
  rw [← List.take_append_drop j b, List.mem_append, drop_head hj] at hp
  rcases hp with hp | hp | hp
  · have := h1 p hp
    rw [ltP_irrefl] at this
    cases this
  · exact h3 hp.symm
  · have := h.head_lt hj hp
    rw [h2] at this
    cases this

end Go.Proofs.Ytcoehkphdfejjaa

/-
  Union and Add of the program.
-/
namespace Go.Proofs.Ytcoehkphdfejjaa
open Go.RowKit
set_option linter.unusedVariables false

/-- What Union has made of the first k pairs of a and the first j of b. -/
structure UN (a b : List Pr) (k j : Nat) (o : List Pr) : Prop where
  srt : Srt o
  mem : ∀ q, q ∈ o ↔ q ∈ a.take k ∨ q ∈ b.take j
  la : ∀ q ∈ o, ∀ x ∈ a.drop k, ltP q x = true
  lb : ∀ q ∈ o, ∀ y ∈ b.drop j, ltP q y = true
  len : o.length ≤ k + j

theorem UN.start (a b : List Pr) : UN a b 0 0 [] := ⟨Srt.nil, fun q => by simp, fun q h => by simp at h, fun q h => by simp at h, Nat.zero_le _⟩

section
variable {a b o : List Pr} {k j : Nat}

theorem UN.stb (h : UN a b k j o) (ha : Srt a) (hb : Srt b) (hk : k < a.length) (hj : j < b.length) (hlt : ltP b[j] a[k] = true) : UN a b k (j + 1) (o ++ [b[j]]) where
  srt := Srt.snoc h.srt fun y hy => h.lb y hy _ ((drop_head hj).2 (.inl rfl))
  mem q := by rw [List.mem_append, List.mem_singleton, h.mem, mem_take_succ hj, or_assoc]
  la q hq x hx := by
    rcases List.mem_append.1 hq with hq | hq
    · exact h.la q hq x hx
    · rw [List.mem_singleton] at hq
      subst hq
      rcases (drop_head hk).1 hx with e | e
      · rw [e]; exact hlt
      · exact ltP_trans hlt (ha.head_lt hk e)
  lb q hq y hy := by
    rcases List.mem_append.1 hq with hq | hq
    · exact h.lb q hq y ((drop_head hj).2 (.inr hy))
    · rw [List.mem_singleton] at hq
      subst hq
      exact hb.head_lt hj hy
  len := by have := h.len; simp; omega

theorem UN.sta (h : UN a b k j o) (ha : Srt a) (hk : k < a.length) (hlt : ∀ y ∈ b.drop j, ltP a[k] y = true) : UN a b (k + 1) j (o ++ [a[k]]) where
  srt := Srt.snoc h.srt fun y hy => h.la y hy _ ((drop_head hk).2 (.inl rfl))
  mem q := by
    rw [List.mem_append, List.mem_singleton, h.mem, mem_take_succ hk, or_assoc, or_assoc, or_comm (a := q ∈ b.take j)]
  la q hq x hx := by
    rcases List.mem_append.1 hq with hq | hq
    · exact h.la q hq x ((drop_head hk).2 (.inr hx))
    · rw [List.mem_singleton] at hq
      subst hq
      exact ha.head_lt hk hx
  lb q hq y hy := by
    rcases List.mem_append.1 hq with hq | hq
    · exact h.lb q hq y hy
    · rw [List.mem_singleton] at hq
      subst hq
      exact hlt y hy
  len := by have := h.len; simp; omega

theorem UN.stab (h : UN a b k j o) (ha : Srt a) (hb : Srt b) (hk : k < a.length) (hj : j < b.length) (he : b[j] = a[k]) : UN a b (k + 1) (j + 1) (o ++ [a[k]]) where
  srt := Srt.snoc h.srt fun y hy => h.la y hy _ ((drop_head hk).2 (.inl rfl))
  mem q := by
    rw [List.mem_append, List.mem_singleton, h.mem, mem_take_succ hk, mem_take_succ hj, he]
    constructor
    · rintro ((h | h) | h)
      · exact .inl (.inl h)
      · exact .inr (.inl h)
      · exact .inl (.inr h)
    · rintro ((h | h) | (h | h))
      · exact .inl (.inl h)
      · exact .inr h
      · exact .inl (.inr h)
      · exact .inr h
  la q hq x hx := by
    rcases List.mem_append.1 hq with hq | hq
    · exact h.la q hq x ((drop_head hk).2 (.inr hx))
    · rw [List.mem_singleton] at hq
      subst hq
      exact ha.head_lt hk hx
  lb q hq y hy := by
    rcases List.mem_append.1 hq with hq | hq
    · exact h.lb q hq y ((drop_head hj).2 (.inr hy))
    · rw [List.mem_singleton] at hq
      subst hq
      rw [← he]
      exact hb.head_lt hj hy
  len := by have := h.len; simp; omega

theorem UN.end_ (h : UN a b k j o) (hb : Srt b) (hk : a.length ≤ k) : o ++ b.drop j = mkP (a ++ b) := by
  refine mkP_eq ?_ fun q => ?_
  · unfold Srt
    rw [List.pairwise_append]
    exact ⟨h.srt, hb.drop j, h.lb⟩
  · have e := h.mem q
    rw [List.take_of_length_le hk] at e
    have e2 : q ∈ b ↔ q ∈ b.take j ∨ q ∈ b.drop j := by rw [← List.mem_append, List.take_append_drop]
    rw [List.mem_append, List.mem_append, e, e2, or_assoc]

theorem gt_all (hb : Srt b) (hj : j < b.length) {p : Pr} (h1 : ltP b[j] p = false) (h2 : ¬ b[j] = p) : ∀ y ∈ b.drop j, ltP p y = true := fun y hy => by
  have h3 : ltP p b[j] = true := ltP_of_le h1 fun e => h2 e.symm
  rcases (drop_head hj).1 hy with e | e
  · rw [e]; exact h3
  · exact ltP_trans h3 (hb.head_lt hj e)

end

/-- An own list, and beside it a block with the pair at hand. -/
structure PX (w : World) (v : Value) (l : List Pr) (pb : Nat) (x1 x2 : Int) (wr : World) : Prop where
  pl : PL w v l wr
  row : Row wr pb 66 #[.int .i64 x1, .int .i64 x2]
  ne : ∀ k, v.ownBlock = some k → k ≠ pb

section
variable {w wr w' : World} {v v' : Value} {l : List Pr} {pb : Nat} {x1 x2 : Int}

theorem PX.of (h : PL w v l wr) (x1 x2 : Int) : PX w v l wr.heap.size x1 x2 (wr.alloc (prObj x1 x2)) :=
  ⟨h.alloc _, Row.new wr _ _, fun k hk e => by have := (ownS_lt h.own k hk).2; omega⟩

theorem PX.grew (h : PX w v l pb x1 x2 wr) (hg : Grew wr w') : PX w v l pb x1 x2 w' := ⟨h.pl.grew hg, hg.row h.row, h.ne⟩

theorem PX.push (h : PX w v l pb x1 x2 wr) (y1 y2 : Int) {n : Nat} (hn : n = l.length)
    (ho : w'.ownsRow w.heap.size 66 2 v' (n + 1) (prs l ++ prs [(y1, y2)])) (hg : (wr.alloc (prObj y1 y2)).grownBy w' v.ownBlock) (hv : v'.ownBlock = v.ownBlock ∨ v'.ownBlock = some (wr.heap.size + 1)) : PX w v' (l ++ [(y1, y2)]) pb x1 x2 w' := by
  have hlt := h.row.lt
  refine ⟨h.pl.push y1 y2 hn ho hg, ?_, fun k hk e => ?_⟩
  · refine (hg.block pb (by simp; omega) fun e => h.ne pb e.symm rfl).trans (h.row.alloc _)
  · rcases hv with hv | hv
    · exact h.ne k (hv.symm.trans hk) e
    · rw [hv] at hk
      simp at hk
      omega

theorem PX.cells (h : PX w v l pb x1 x2 wr) : wr.cell? ⟨pb, 0, none⟩ = some (.int .i64 x1) ∧ wr.cell? ⟨pb, 1, none⟩ = some (.int .i64 x2) := ⟨h.row.cell 0, h.row.cell 1⟩

end

theorem make_pr (n : Nat) (hn : n ≤ 4000000) : ∃ Z : Array Value, Z.size = n * 2 ∧ ∀ w, (Instr.makeSlice 63 (.int .i64 0) (.int .i64 (n : Int))).run Try.prog w = .ok (.slice (some ⟨w.heap.size, 0, none⟩) 0 n) (w.alloc (.cells Z 66)) := by
  obtain ⟨i, hi, hz, hs, hb⟩ := info_pr
  refine ⟨madeCells (Value.agg #[.int .i64 0, .int .i64 0]).cells (n * i.size), ?_, fun w => ?_⟩
  · rw [size_madeCells, hs]
  · have := run_make (P := Try.prog) w _ _ i _ Try.underlying63 hi hz .i64 .i64 0 n (by decide) (by omega) (by rw [hb]; omega) (by omega)
    simpa using this

theorem PL.make (w : World) {n : Nat} {Z : Array Value} (hZ : Z.size = n * 2) (hn : n ≤ 4000000) : PL w (.slice (some ⟨w.heap.size, 0, none⟩) 0 n) [] (w.alloc (.cells Z 66)) :=
  ⟨⟨by simp [prs], .inr ⟨w.heap.size, n, Z, rfl, Nat.le_refl _, heap_alloc_new w _, Nat.zero_le _, by unfold maxLen; omega, hZ, by simp [prs]⟩⟩, (Below.refl _ _).alloc (Nat.le_refl _) _⟩

end Go.Proofs.Ytcoehkphdfejjaa

/-
  DropV and DropL of the program.
-/
namespace Go.Proofs.Ytcoehkphdfejjaa
open Go.RowKit
set_option linter.unusedVariables false

end Go.Proofs.Ytcoehkphdfejjaa

/-
  The contracts of layer 11 in the form that the statements' walks use: lists that are seen, by name.
-/
namespace Go.Proofs.Ytcoehkphdfejjaa
open Go.RowKit
set_option linter.unusedVariables false

/-- A list of pairs that is seen, and is short. -/
structure LS (w : World) (A : Option Addr) (n c : Nat) (l : List Pr) : Prop where
  len : l.length = n
  cap : n ≤ c
  cmx : c ≤ maxLen
  see : Sees w w.heap.size A (prs l)
  sm : n ≤ 1000

/-- A new list of pairs. -/
def PV (w : World) (l : List Pr) (e : Ending) (w' : World) : Prop := ∃ A n c, e = .returned (.slice A n c) ∧ PL w (.slice A n c) l w' ∧ LS w' A n c l

theorem PL.clone {w w' : World} {v : Value} {l : List Pr} {m : Nat} (hm : l.length = m)
    (ho : w'.ownsRow w.heap.size 66 2 v m (prs l)) (hg : (w.alloc (.cells #[] 66)).grownBy w' (Value.slice (some ⟨w.heap.size, 0, none⟩) 0 0).ownBlock) : PL w v l w' := by
  refine ⟨by rw [hm]; exact ho, ((Below.refl _ _).alloc (Nat.le_refl _) _).grown hg (by simp) (fun k hk => by simp [Value.ownBlock] at hk; omega)⟩

theorem PL.join {w wr w' : World} {v v' : Value} {l r : List Pr} {n m : Nat} (h : PL w v l wr) (hn : l.length = n) (hm : r.length = m)
    (ho : w'.ownsRow w.heap.size 66 2 v' (n + m) (prs l ++ prs r)) (hg : wr.grownBy w' v.ownBlock) : PL w v' (l ++ r) w' := by
  subst hn hm
  exact ⟨by rw [prs_append, List.length_append]; exact ho, h.blw.grown hg h.blw.size fun k hk => (ownS_lt h.own k hk).1⟩

section
variable {w w' : World} {A A' : Option Addr} {n c m c' : Nat} {l r : List Pr}

theorem LS.below (h : LS w A n c l) (hb : Below w.heap.size w w') : LS w' A n c l := ⟨h.len, h.cap, h.cmx, (h.see.below hb).more hb.size, h.sm⟩

theorem LS.big (h : LS w A n c l) : l.length ≤ 1000000 := by have := h.len; have := h.sm; omega

theorem LS.ml (h : LS w A n c l) : l.length ≤ maxLen := by have := h.big; unfold maxLen; omega

theorem PL.ls (h : PL w (.slice A n c) l w') (hs : l.length ≤ 1000) : LS w' A n c l := by
  obtain ⟨A1, c1, e, h1, h2⟩ := h.slice
  injection e with e1 e2 e3
  subst e1 e2 e3
  exact ⟨rfl, h1, h2, h.sees, hs⟩

theorem PV.of {e : Ending} (hs : l.length ≤ 1000) (h : ∃ v, e = .returned v ∧ PL w v l w') : PV w l e w' := by
  obtain ⟨v, rfl, hP⟩ := h
  obtain ⟨A1, c1, rfl, h1, h2⟩ := hP.slice
  exact ⟨A1, l.length, c1, rfl, hP, hP.ls hs⟩

theorem LS.one (w : World) (x1 x2 : Int) : LS (w.alloc (prObj x1 x2)) (some ⟨w.heap.size, 0, none⟩) 1 1 [(x1, x2)] :=
  ⟨rfl, Nat.le_refl _, by unfold maxLen; omega, by have := new_sees w x1 x2; rwa [show (w.alloc (prObj x1 x2)).heap.size = w.heap.size + 1 by simp], by omega⟩

theorem LS.two (w : World) (x1 x2 y1 y2 : Int) : LS (w.alloc (.cells #[.int .i64 x1, .int .i64 x2, .int .i64 y1, .int .i64 y2] 66)) (some ⟨w.heap.size, 0, none⟩) 2 2 [(x1, x2), (y1, y2)] :=
  ⟨rfl, Nat.le_refl _, by unfold maxLen; omega, by have := sees_new w #[.int .i64 x1, .int .i64 x2, .int .i64 y1, .int .i64 y2] 66; rwa [show (w.alloc (.cells #[.int .i64 x1, .int .i64 x2, .int .i64 y1, .int .i64 y2] 66)).heap.size = w.heap.size + 1 by simp], by omega⟩

theorem LS.three (w : World) (x1 x2 y1 y2 z1 z2 : Int) : LS (w.alloc (.cells #[.int .i64 x1, .int .i64 x2, .int .i64 y1, .int .i64 y2, .int .i64 z1, .int .i64 z2] 66)) (some ⟨w.heap.size, 0, none⟩) 3 3 [(x1, x2), (y1, y2), (z1, z2)] :=
  ⟨rfl, Nat.le_refl _, by unfold maxLen; omega, by have := sees_new w #[.int .i64 x1, .int .i64 x2, .int .i64 y1, .int .i64 y2, .int .i64 z1, .int .i64 z2] 66; rwa [show (w.alloc (.cells #[.int .i64 x1, .int .i64 x2, .int .i64 y1, .int .i64 y2, .int .i64 z1, .int .i64 z2] 66)).heap.size = w.heap.size + 1 by simp], by omega⟩

theorem LS.nil (w : World) : LS w none 0 0 [] := ⟨rfl, Nat.le_refl _, Nat.zero_le _, Sees.nil, by omega⟩

theorem same_ls (h : LS w A n c l) (k : LS w A' m c' r) : Calls Try.prog 51 #[.slice A n c, .slice A' m c'] w fun e w' => e = .returned (.bool (decide (l = r))) ∧ Grew w w' := by
  obtain ⟨rfl, _, _, h4, _⟩ := id h
  obtain ⟨rfl, _, _, k4, _⟩ := id k
  exact prsame_any w.heap.size A A' l r c c' w h4 k4 h.ml k.ml

theorem same_lsB (h : LS w A n c l) (k : LS w A' m c' r) : Calls Try.prog 51 #[.slice A n c, .slice A' m c'] w fun e w' => e = .returned (.bool (decide (l = r))) ∧ Below w.heap.size w w' :=
  (same_ls h k).mono fun _ _ ⟨a, b⟩ => ⟨a, b.below⟩

/-- Whether all pairs of a are in b. -/
def subP (a b : List Pr) : Bool := decide (∀ x ∈ a, x ∈ b)

theorem subP_iff {a b : List Pr} : subP a b = true ↔ ∀ x ∈ a, x ∈ b := by simp [subP]

end

end Go.Proofs.Ytcoehkphdfejjaa

/-
  Has of the program: the library's binary search, with the program's comparison.
-/
namespace Go.Proofs.Ytcoehkphdfejjaa
open Go.RowKit
set_option linter.unusedVariables false

/-- What the search knows: all before i are less, none from j on. -/
structure BS (l : List Pr) (p : Pr) (i j : Nat) : Prop where
  lo : ∀ t, (h : t < l.length) → t < i → ltP l[t] p = true
  hi : ∀ t, (h : t < l.length) → j ≤ t → ltP l[t] p = false

theorem BS.left {l : List Pr} {p : Pr} {i j h : Nat} (hs : Srt l) (b : BS l p i j) (hh : h < l.length) (hl : ltP l[h] p = true) : BS l p (h + 1) j :=
  ⟨fun t ht hti => by
    rcases Nat.lt_or_ge t h with h1 | h1
    · exact ltP_trans (hs.lt h1 hh) hl
    · obtain rfl : t = h := by omega
      exact hl, b.hi⟩

theorem BS.right {l : List Pr} {p : Pr} {i j h : Nat} (hs : Srt l) (b : BS l p i j) (hh : h < l.length) (hl : ltP l[h] p = false) : BS l p i h :=
  ⟨b.lo, fun t ht hti => by
    rcases Nat.lt_or_ge h t with h1 | h1
    · rcases Bool.eq_false_or_eq_true (ltP l[t] p) with e | e
      · have := ltP_trans (hs.lt h1 ht) e
        rw [hl] at this
        cases this
      · exact e
    · obtain rfl : t = h := by omega
      exact hl⟩

theorem BS.none {l : List Pr} {p : Pr} {i : Nat} (b : BS l p i i) (hi : l.length ≤ i) : hasP l p = false := by
  refine decide_eq_false fun hp => ?_
  obtain ⟨t, ht, e⟩ := List.getElem_of_mem hp
  have := b.lo t ht (by omega)
  rw [e, ltP_irrefl] at this
  cases this

theorem BS.some {l : List Pr} {p : Pr} {i : Nat} (hs : Srt l) (b : BS l p i i) (hi : i < l.length) : hasP l p = decide (l[i] = p) := by
  by_cases h : l[i] = p
  · rw [decide_eq_true h, ← h]
    exact decide_eq_true (List.getElem_mem _)
  · rw [decide_eq_false h]
    refine decide_eq_false fun hp => ?_
    obtain ⟨t, ht, e⟩ := List.getElem_of_mem hp
    rcases Nat.lt_or_ge t i with h1 | h1
    · have := b.lo t ht h1
      rw [e, ltP_irrefl] at this
      cases this
    · rcases Nat.lt_or_ge i t with h2 | h2
      · have h3 := hs.lt h2 ht
        rw [e] at h3
        have := b.hi i hi (Nat.le_refl _)
        rw [h3] at this
        cases this
      · obtain rfl : t = i := by omega
        exact h e

end Go.Proofs.Ytcoehkphdfejjaa

/-
  The library's Clone at lists of pairs.
-/
namespace Go.Proofs.Ytcoehkphdfejjaa
open Go.RowKit
set_option linter.unusedVariables false

end Go.Proofs.Ytcoehkphdfejjaa

/-
  What copies, moves and definitions make of pair sets: the mathematics of layer 12.
-/
namespace Go.Proofs.Ytcoehkphdfejjaa
set_option linter.unusedVariables false

/-- The pairs of a list and, for those that f picks, the pairs that h names. -/
def addR (l : List Pr) (f : Pr → Bool) (h : Pr → Pr) : List Pr := mkP (l ++ (l.filter f).map h)

/-- The pair set after a copy of register a to register d. -/
def cpP (l : List Pr) (d a : Int) : List Pr := if d = a then l else addR (l.filter fun p => !(p.1 == d)) (fun p => p.1 == a) fun p => (d, p.2)

/-- The pair set after a move from location s to location t. -/
def mvP (l : List Pr) (t s : Int) : List Pr := if t = s then l else addR (l.filter fun p => !(p.2 == t)) (fun p => p.2 == s) fun p => (p.1, t)

/-- The pair set after a definition of register d in location t. -/
def dfP (l : List Pr) (d t : Int) : List Pr := mkP (((l.filter fun p => !(p.1 == d)).filter fun p => !(p.2 == t)) ++ [(d, t)])

theorem Srt.filter {l : List Pr} (h : Srt l) (f : Pr → Bool) : Srt (l.filter f) := List.Pairwise.sublist List.filter_sublist h

/-- The renamed pairs are a pair set: they keep the location, or the register, in which they differ. -/
theorem ren_srt1 {l : List Pr} (h : Srt l) (d a : Int) : Srt ((l.filter fun p => p.1 == a).map fun p => (d, p.2)) := by
  have h1 := h.filter fun p => p.1 == a
  unfold Srt at *
  rw [List.pairwise_map]
  refine (List.Pairwise.and_mem.1 h1).imp fun {x y} ⟨hx, hy, hxy⟩ => ?_
  have ex := (List.mem_filter.1 hx).2
  have ey := (List.mem_filter.1 hy).2
  rw [beq_iff_eq] at ex ey
  rw [ltP_iff] at *
  dsimp only
  omega

theorem ren_srt2 {l : List Pr} (h : Srt l) (t s : Int) : Srt ((l.filter fun p => p.2 == s).map fun p => (p.1, t)) := by
  have h1 := h.filter fun p => p.2 == s
  unfold Srt at *
  rw [List.pairwise_map]
  refine (List.Pairwise.and_mem.1 h1).imp fun {x y} ⟨hx, hy, hxy⟩ => ?_
  have ex := (List.mem_filter.1 hx).2
  have ey := (List.mem_filter.1 hy).2
  rw [beq_iff_eq] at ex ey
  rw [ltP_iff] at *
  dsimp only
  omega

theorem cpP_srt {l : List Pr} (h : Srt l) (d a : Int) : Srt (cpP l d a) := by
  unfold cpP
  split
  · exact h
  · exact mkP_srt _

theorem mvP_srt {l : List Pr} (h : Srt l) (t s : Int) : Srt (mvP l t s) := by
  unfold mvP
  split
  · exact h
  · exact mkP_srt _

theorem dfP_srt (l : List Pr) (d t : Int) : Srt (dfP l d t) := mkP_srt _

theorem mem_cpP {l : List Pr} {d a : Int} {q : Pr} : q ∈ cpP l d a ↔ (q ∈ l ∧ (d = a ∨ q.1 ≠ d)) ∨ (q.1 = d ∧ (a, q.2) ∈ l) := by
  unfold cpP
  by_cases h : d = a
  · rw [if_pos h]
    constructor
    · intro hq
      exact .inl ⟨hq, .inl h⟩
    · rintro (⟨hq, _⟩ | ⟨h1, h2⟩)
      · exact hq
      · have : q = (a, q.2) := pr_eq (h1.trans h) rfl
        rw [this]
        exact h2
  · rw [if_neg h]
    unfold addR
    rw [mem_mkP, List.mem_append, List.mem_filter, List.mem_map]
    constructor
    · rintro (⟨h1, h2⟩ | ⟨p, hp, rfl⟩)
      · exact .inl ⟨h1, .inr (by simpa using h2)⟩
      · obtain ⟨h1, h2⟩ := List.mem_filter.1 hp
        obtain ⟨h3, _⟩ := List.mem_filter.1 h1
        refine .inr ⟨rfl, ?_⟩
        have : (a, p.2) = p := pr_eq (by simpa using (beq_iff_eq.1 h2).symm) rfl
        dsimp only
        rw [this]
        exact h3
    · rintro (⟨h1, h2⟩ | ⟨h1, h2⟩)
      · exact .inl ⟨h1, by simpa using h2.resolve_left h⟩
      · refine .inr ⟨(a, q.2), List.mem_filter.2 ⟨List.mem_filter.2 ⟨h2, ?_⟩, by simp⟩, pr_eq h1.symm rfl⟩
        simpa using fun e => h e.symm

theorem mem_mvP {l : List Pr} {t s : Int} {q : Pr} : q ∈ mvP l t s ↔ (q ∈ l ∧ (t = s ∨ q.2 ≠ t)) ∨ (q.2 = t ∧ (q.1, s) ∈ l) := by
  unfold mvP
  by_cases h : t = s
  · rw [if_pos h]
    constructor
    · intro hq
      exact .inl ⟨hq, .inl h⟩
    · rintro (⟨hq, _⟩ | ⟨h1, h2⟩)
      · exact hq
      · have : q = (q.1, s) := pr_eq rfl (h1.trans h)
        rw [this]
        exact h2
  · rw [if_neg h]
    unfold addR
    rw [mem_mkP, List.mem_append, List.mem_filter, List.mem_map]
    constructor
    · rintro (⟨h1, h2⟩ | ⟨p, hp, rfl⟩)
      · exact .inl ⟨h1, .inr (by simpa using h2)⟩
      · obtain ⟨h1, h2⟩ := List.mem_filter.1 hp
        obtain ⟨h3, _⟩ := List.mem_filter.1 h1
        refine .inr ⟨rfl, ?_⟩
        have : (p.1, s) = p := pr_eq rfl (by simpa using (beq_iff_eq.1 h2).symm)
        dsimp only
        rw [this]
        exact h3
    · rintro (⟨h1, h2⟩ | ⟨h1, h2⟩)
      · exact .inl ⟨h1, by simpa using h2.resolve_left h⟩
      · refine .inr ⟨(q.1, s), List.mem_filter.2 ⟨List.mem_filter.2 ⟨h2, ?_⟩, by simp⟩, pr_eq rfl h1.symm⟩
        simpa using fun e => h e.symm

theorem mem_dfP {l : List Pr} {d t : Int} {q : Pr} : q ∈ dfP l d t ↔ (q ∈ l ∧ q.1 ≠ d ∧ q.2 ≠ t) ∨ q = (d, t) := by
  unfold dfP
  rw [mem_mkP, List.mem_append, List.mem_filter, List.mem_filter, List.mem_singleton]
  simp [and_assoc]

theorem cpP_len (l : List Pr) (d a : Int) : (cpP l d a).length ≤ 2 * l.length := by
  unfold cpP
  split
  · omega
  · refine Nat.le_trans (mkP_len _) ?_
    rw [List.length_append, List.length_map]
    have h1 := List.length_filter_le (fun p : Pr => !(p.1 == d)) l
    have h2 := List.length_filter_le (fun p : Pr => p.1 == a) (l.filter fun p => !(p.1 == d))
    omega

theorem mvP_len (l : List Pr) (t s : Int) : (mvP l t s).length ≤ 2 * l.length := by
  unfold mvP
  split
  · omega
  · refine Nat.le_trans (mkP_len _) ?_
    rw [List.length_append, List.length_map]
    have h1 := List.length_filter_le (fun p : Pr => !(p.2 == t)) l
    have h2 := List.length_filter_le (fun p : Pr => p.2 == s) (l.filter fun p => !(p.2 == t))
    omega

theorem dfP_len (l : List Pr) (d t : Int) : (dfP l d t).length ≤ l.length + 1 := by
  refine Nat.le_trans (mkP_len _) ?_
  rw [List.length_append, List.length_singleton]
  have h1 := List.length_filter_le (fun p : Pr => !(p.1 == d)) l
  have h2 := List.length_filter_le (fun p : Pr => !(p.2 == t)) (l.filter fun p => !(p.1 == d))
  omega

/-- What the reference of Copy adds for a pair. -/
def cpS (d a : Int) (p : Pr) : List Pr := (if d = a ∨ p.1 ≠ d then [p] else []) ++ if p.1 = a then [(d, p.2)] else []

def mvS (t s : Int) (p : Pr) : List Pr := (if t = s ∨ p.2 ≠ t then [p] else []) ++ if p.2 = s then [(p.1, t)] else []

def dfS (d t : Int) (p : Pr) : List Pr := if p.1 ≠ d ∧ p.2 ≠ t then [p] else []

theorem mem_ite_one {c : Prop} [Decidable c] {q x : Pr} : q ∈ (if c then [x] else []) ↔ c ∧ q = x := by
  by_cases h : c <;> simp [h]

theorem cpS_eq {l : List Pr} (h : Srt l) (d a : Int) : mkP (l.flatMap (cpS d a)) = cpP l d a := by
  refine (mkP_eq (cpP_srt h d a) fun q => ?_).symm
  rw [mem_cpP, List.mem_flatMap]
  constructor
  · rintro (⟨h1, h2⟩ | ⟨h1, h2⟩)
    · exact ⟨q, h1, List.mem_append.2 (.inl (mem_ite_one.2 ⟨h2, rfl⟩))⟩
    · exact ⟨(a, q.2), h2, List.mem_append.2 (.inr (mem_ite_one.2 ⟨rfl, pr_eq h1 rfl⟩))⟩
  · rintro ⟨p, hp, hq⟩
    rcases List.mem_append.1 hq with hq | hq
    · obtain ⟨h1, rfl⟩ := mem_ite_one.1 hq
      exact .inl ⟨hp, h1⟩
    · obtain ⟨h1, rfl⟩ := mem_ite_one.1 hq
      refine .inr ⟨rfl, ?_⟩
      have : (a, p.2) = p := pr_eq h1.symm rfl
      dsimp only
      rw [this]
      exact hp

theorem mvS_eq {l : List Pr} (h : Srt l) (t s : Int) : mkP (l.flatMap (mvS t s)) = mvP l t s := by
  refine (mkP_eq (mvP_srt h t s) fun q => ?_).symm
  rw [mem_mvP, List.mem_flatMap]
  constructor
  · rintro (⟨h1, h2⟩ | ⟨h1, h2⟩)
    · exact ⟨q, h1, List.mem_append.2 (.inl (mem_ite_one.2 ⟨h2, rfl⟩))⟩
    · exact ⟨(q.1, s), h2, List.mem_append.2 (.inr (mem_ite_one.2 ⟨rfl, pr_eq rfl h1⟩))⟩
  · rintro ⟨p, hp, hq⟩
    rcases List.mem_append.1 hq with hq | hq
    · obtain ⟨h1, rfl⟩ := mem_ite_one.1 hq
      exact .inl ⟨hp, h1⟩
    · obtain ⟨h1, rfl⟩ := mem_ite_one.1 hq
      refine .inr ⟨rfl, ?_⟩
      have : (p.1, s) = p := pr_eq rfl h1.symm
      dsimp only
      rw [this]
      exact hp

theorem dfS_eq (l : List Pr) (d t : Int) : mkP ([(d, t)] ++ l.flatMap (dfS d t)) = dfP l d t := by
  refine (mkP_eq (dfP_srt l d t) fun q => ?_).symm
  rw [mem_dfP, List.mem_append, List.mem_singleton, List.mem_flatMap]
  constructor
  · rintro (⟨h1, h2⟩ | h)
    · exact .inr ⟨q, h1, mem_ite_one.2 ⟨h2, rfl⟩⟩
    · exact .inl h
  · rintro (h | ⟨p, hp, hq⟩)
    · exact .inr h
    · obtain ⟨h1, rfl⟩ := mem_ite_one.1 hq
      exact .inl ⟨hp, h1⟩

theorem flat_take {l : List Pr} {k : Nat} (hk : k < l.length) (S : Pr → List Pr) : (l.take (k + 1)).flatMap S = (l.take k).flatMap S ++ S l[k] := by
  rw [List.take_succ_eq_append_getElem hk, List.flatMap_append, List.flatMap_singleton]

theorem cpS_len (d a : Int) (p : Pr) : (cpS d a p).length ≤ 2 := by
  unfold cpS
  split <;> split <;> simp

theorem mvS_len (t s : Int) (p : Pr) : (mvS t s p).length ≤ 2 := by
  unfold mvS
  split <;> split <;> simp

theorem dfS_len (d t : Int) (p : Pr) : (dfS d t p).length ≤ 2 := by
  unfold dfS
  split <;> simp

theorem flat_len {S : Pr → List Pr} (hS : ∀ p, (S p).length ≤ 2) : ∀ l : List Pr, (l.flatMap S).length ≤ 2 * l.length
  | [] => by simp
  | x :: r => by
    have := hS x
    have := flat_len hS r
    simp only [List.flatMap_cons, List.length_append, List.length_cons]
    omega

theorem mkP_add (o : List Pr) (p : Pr) : addP (mkP o) p = mkP (o ++ [p]) := (mkP_snoc o p).symm

/-- The monotony of the three. -/
theorem cpP_mono {l m : List Pr} (h : ∀ q ∈ l, q ∈ m) (d a : Int) : ∀ q ∈ cpP l d a, q ∈ cpP m d a := fun q hq =>
  mem_cpP.2 ((mem_cpP.1 hq).imp (fun ⟨h1, h2⟩ => ⟨h _ h1, h2⟩) fun ⟨h1, h2⟩ => ⟨h1, h _ h2⟩)

theorem mvP_mono {l m : List Pr} (h : ∀ q ∈ l, q ∈ m) (t s : Int) : ∀ q ∈ mvP l t s, q ∈ mvP m t s := fun q hq =>
  mem_mvP.2 ((mem_mvP.1 hq).imp (fun ⟨h1, h2⟩ => ⟨h _ h1, h2⟩) fun ⟨h1, h2⟩ => ⟨h1, h _ h2⟩)

theorem dfP_mono {l m : List Pr} (h : ∀ q ∈ l, q ∈ m) (d t : Int) : ∀ q ∈ dfP l d t, q ∈ dfP m d t := fun q hq =>
  mem_dfP.2 ((mem_dfP.1 hq).imp_left fun ⟨h1, h2⟩ => ⟨h _ h1, h2⟩)

end Go.Proofs.Ytcoehkphdfejjaa

/-
  Copy, Move and Define of the program.
-/
namespace Go.Proofs.Ytcoehkphdfejjaa
open Go.RowKit
set_option linter.unusedVariables false

/-- A closure over two cells that renames a pair. -/
def RenC (g : Nat) (pb qb : Nat) (f : Pr → Bool) (h : Pr → Pr) (w : World) : Prop :=
  ∀ (x : Pr) W, Below w.heap.size w W → Calls Try.prog g #[.agg #[.int .i64 x.1, .int .i64 x.2], .pointer (some ⟨pb, 0, none⟩), .pointer (some ⟨qb, 0, none⟩)] W fun e w' => e = .returned (.tuple #[.agg #[.int .i64 (h x).1, .int .i64 (h x).2], .bool (f x)]) ∧ Below W.heap.size W w'

/-! Over lists that are seen. -/

section
variable {w : World} {A : Option Addr} {n c : Nat} {l : List Pr}

end

end Go.Proofs.Ytcoehkphdfejjaa
