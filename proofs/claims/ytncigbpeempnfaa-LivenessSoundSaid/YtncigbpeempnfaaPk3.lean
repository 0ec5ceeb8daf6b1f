import Derived.Test.YtncigbpeempnfaaPk1
import Derived.Deep.RegionHeld3
import Derived.Shelf.SlSortCmp.QuietGrown
import Derived.Lib.Small
import Derived.Deep.Cut
import Derived.Deep.CutRange
import Derived.Deep.DeepMust

/-
  Steps that draw and lay blocks, and turn nothing.
-/
namespace Go.Proofs.Ytncigbpeempnfaa
open Go.RowKit
set_option linter.unusedVariables false

/-- A step that draws and lays blocks, and turns nothing. -/
def Grew (w w' : World) : Prop := ∃ n os, w' = Go.Sort.grow (w.drewN n) os

theorem Grew.refl (w : World) : Grew w w := ⟨0, #[], by rw [Go.Sort.grow_empty]; rfl⟩

theorem Grew.drewN {w w' : World} (h : Grew w w') (k : Nat) : Grew w (w'.drewN k) := by
  obtain ⟨n, os, rfl⟩ := h
  exact ⟨n + k, os, by rw [← World.drewN_drewN]; rfl⟩

theorem Grew.drew {w w' : World} (h : Grew w w') : Grew w w'.drew := h.drewN 1

theorem Grew.alloc {w w' : World} (h : Grew w w') (o : Obj) : Grew w (w'.alloc o) := by
  obtain ⟨n, os, rfl⟩ := h
  exact ⟨n, os ++ #[o], by rw [Go.Sort.alloc_eq_grow, Go.Sort.grow_grow]⟩

theorem Grew.trans {w w' w'' : World} (h : Grew w w') (k : Grew w' w'') : Grew w w'' := by
  obtain ⟨n, os, rfl⟩ := h
  obtain ⟨m, ot, rfl⟩ := k
  exact ⟨n + m, os ++ ot, by
    rw [← Go.Sort.grow_grow, ← World.drewN_drewN]
    rfl⟩

theorem Grew.below {w w' : World} (h : Grew w w') : Below w.heap.size w w' := by
  obtain ⟨n, os, rfl⟩ := h
  exact ⟨rfl, rfl, rfl, by simp [Go.Sort.grow, World.drewN], fun k hk => by simp [Go.Sort.grow, World.drewN, Array.getElem?_append, hk]⟩

theorem Grew.cell {w w' : World} (h : Grew w w') {p : Addr} {v : Value} (hc : w.cell? p = some v) : w'.cell? p = some v := by
  obtain ⟨n, os, rfl⟩ := h
  exact Go.cell_grown (World.block_lt_of_cell? w _ hc) hc n os

theorem Grew.row {w w' : World} (h : Grew w w') {p : Nat} {T : TypeId} {cs : Array Value} (hr : Row w p T cs) : Row w' p T cs := hr.below h.below hr.lt

theorem Grew.frozen {w w' : World} (h : Grew w w') {p : Nat} {T : TypeId} {cs : Array Value} (hr : Row w p T cs) (i : Nat) : w'.frozen? ⟨p, i, none⟩ = false := (h.row hr).frozen i

end Go.Proofs.Ytncigbpeempnfaa

/-
  Lists of records of s cells each that a call owns.
-/
namespace Go.Proofs.Ytncigbpeempnfaa
open Go.RowKit
set_option linter.unusedVariables false

/-- The value v is a list of records in memory of its own, new to the world w; of what was there nothing has turned. -/
structure RL {α : Type} (f : α → List Value) (s : Nat) (T : TypeId) (w : World) (v : Value) (l : List α) (wr : World) : Prop where
  own : wr.ownsRow w.heap.size T s v l.length (l.flatMap f)
  blw : Below w.heap.size w wr

theorem flatS_len {α : Type} {f : α → List Value} {s : Nat} (hs : ∀ x, (f x).length = s) : ∀ l : List α, (l.flatMap f).length = l.length * s
  | [] => by simp
  | x :: r => by rw [List.flatMap_cons, List.length_append, hs, flatS_len hs r, List.length_cons, Nat.succ_mul, Nat.add_comm]

theorem flat_one {α : Type} {f : α → List Value} (h : ∀ x, ∀ u ∈ f x, u.oneCell' = true) (l : List α) : ∀ u ∈ l.flatMap f, u.oneCell' = true := fun u hu => by
  obtain ⟨x, _, hx⟩ := List.mem_flatMap.1 hu
  exact h x u hx

theorem flat_put {α : Type} {f : α → List Value} {s : Nat} (hs : ∀ x, (f x).length = s) {y : α} {j : Nat} {u : Value} (hj : j < s) : ∀ (l : List α) (k : Nat) (hk : k < l.length), f y = (f l[k]).set j u → (l.set k y).flatMap f = (l.flatMap f).set (k * s + j) u
  | x :: r, 0, hk, e => by
    simp only [List.getElem_cons_zero] at e
    rw [List.set_cons_zero, List.flatMap_cons, List.flatMap_cons, e, Nat.zero_mul, Nat.zero_add, List.set_append_left _ _ (by rw [hs]; exact hj)]
  | x :: r, k + 1, hk, e => by
    simp only [List.getElem_cons_succ] at e
    rw [List.set_cons_succ, List.flatMap_cons, List.flatMap_cons, flat_put hs hj r k (by simpa using hk) e, List.set_append_right _ _ (by rw [hs, Nat.succ_mul]; omega), hs, Nat.succ_mul, show k * s + s + j - s = k * s + j by omega]

section
variable {α : Type} {f : α → List Value} {s : Nat} {T : TypeId} {w wr w' : World} {v v' : Value} {l r : List α} {A : Option Addr} {n m c : Nat}

theorem RL.nil (w : World) : RL f s T w (.slice none 0 0) [] w := ⟨⟨by simp, .inl ⟨rfl, rfl⟩⟩, Below.refl _ _⟩

theorem RL.next (h : RL f s T w v l wr) (hb : Below wr.heap.size wr w') : RL f s T w v l w' :=
  ⟨(Mods.of_below (S := No) hb).ownS h.own fun _ _ hs => hs.elim, h.blw.trans (hb.mono h.blw.size)⟩

theorem RL.grew (h : RL f s T w v l wr) (hb : Grew wr w') : RL f s T w v l w' := h.next hb.below

theorem RL.alloc (h : RL f s T w v l wr) (o : Obj) : RL f s T w v l (wr.alloc o) := h.next ((Below.refl _ _).alloc (Nat.le_refl _) o)

theorem RL.base {w0 : World} (h : RL f s T w v l wr) (hb : Below w0.heap.size w0 w) : RL f s T w0 v l wr := ⟨ownS_base h.own hb.size, hb.trans (h.blw.mono hb.size)⟩

theorem RL.slice (h : RL f s T w v l wr) : ∃ A c, v = .slice A l.length c ∧ l.length ≤ c ∧ c ≤ maxLen := ownS_slice h.own

theorem RL.sliceN (h : RL f s T w v l wr) (hn : l.length = n) : ∃ A c, v = .slice A n c ∧ n ≤ c ∧ c ≤ maxLen := by
  subst hn
  exact h.slice

theorem RL.sees (h : RL f s T w (.slice A n c) l wr) : Sees wr wr.heap.size A (l.flatMap f) := by
  obtain ⟨A', c', e, _⟩ := h.slice
  injection e with e1 e2 e3
  subst e2
  exact sees_own h.own

theorem RL.some_ (h : RL f s T w (.slice A n c) l wr) (hn : 0 < n) : ∃ g, A = some ⟨g, 0, none⟩ := by
  rcases h.own.2 with ⟨e, _⟩ | ⟨g', cap, cur, hv, _⟩
  · injection e with _ e2 _
    omega
  · injection hv with e1 _ _
    exact ⟨g', e1⟩

theorem RL.join (h : RL f s T w v l wr) (hn : l.length = n) (hm : r.length = m)
    (ho : w'.ownsRow w.heap.size T s v' (n + m) (l.flatMap f ++ r.flatMap f)) (hg : wr.grownBy w' v.ownBlock) : RL f s T w v' (l ++ r) w' := by
  subst hn hm
  exact ⟨by rw [List.flatMap_append, List.length_append]; exact ho, h.blw.grown hg h.blw.size fun k hk => (ownS_lt h.own k hk).1⟩

theorem RL.push (h : RL f s T w v l wr) (y : α) (hn : l.length = n) {o : Obj}
    (ho : w'.ownsRow w.heap.size T s v' (n + 1) (l.flatMap f ++ f y)) (hg : (wr.alloc o).grownBy w' v.ownBlock) : RL f s T w v' (l ++ [y]) w' :=
  (h.alloc o).join hn rfl (by simpa using ho) hg

theorem RL.snoc (h : RL f s T w v l wr) (y : α) (hn : l.length = n)
    (ho : w'.ownsRow w.heap.size T s v' (n + 1) (l.flatMap f ++ f y)) (hg : wr.grownBy w' v.ownBlock) : RL f s T w v' (l ++ [y]) w' :=
  h.join hn rfl (by simpa using ho) hg

/-- A store into a list of one's own. -/
theorem RL.put {g k j : Nat} {y : α} {u : Value} (h : RL f s T w (.slice (some ⟨g, 0, none⟩) n c) l wr) (hs : ∀ x, (f x).length = s) (hk : k < l.length) (hj : j < s) (e : f y = (f l[k]).set j u) :
    RL f s T w (.slice (some ⟨g, 0, none⟩) n c) (l.set k y) (wr.setCell ⟨g, k * s + j, none⟩ u) := by
  have hlt : k * s + j < (l.flatMap f).length := by
    rw [flatS_len hs]
    have := Nat.mul_le_mul_right s (Nat.succ_le_of_lt hk)
    rw [Nat.succ_mul] at this
    omega
  have h1 := ownS_put h.own (g := g) rfl hlt u
  refine ⟨by rw [List.length_set, flat_put hs hj l k hk e]; exact h1, h.blw.setCell (p := ⟨g, k * s + j, none⟩) (ownS_lt h.own g rfl).1 _⟩

theorem RL.frozen {g k : Nat} (h : RL f s T w (.slice (some ⟨g, 0, none⟩) n c) l wr) : wr.frozen? ⟨g, k, none⟩ = false := by
  rcases h.own.2 with ⟨hv, _⟩ | ⟨g', cap, cur, hv, _, hh, _⟩
  · cases hv
  · injection hv with e _ _
    injection e with e
    injection e with e _ _
    subst e
    exact Row.frozen (T := T) (cs := cur) hh k

/-- A list that is new and empty. -/
theorem RL.empty (w : World) : RL f s T w (.slice (some ⟨w.heap.size, 0, none⟩) 0 0) [] (w.alloc (.cells #[] T)) := ⟨own_empty w T s, (Below.refl _ _).alloc (Nat.le_refl _) _⟩

end

end Go.Proofs.Ytncigbpeempnfaa
