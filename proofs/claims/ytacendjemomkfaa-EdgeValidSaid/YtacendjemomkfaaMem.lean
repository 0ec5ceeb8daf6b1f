/-
  Words for memory, continued: which blocks a step may turn, and blocks that are known whole.
-/
import Derived.Test.YtacendjemomkfaaBase
import Derived.Deep.QuietTactic
import Derived.BigQuiet
namespace Go.Proofs.Ytacendjemomkfaa
open Go.RowKit

/-- Of the blocks that are there, only those of which S speaks may have turned. -/
structure Mods (S : Nat → Prop) (w w' : World) : Prop where
  os : w'.os = w.os
  tape : w'.tape = w.tape
  output : w'.output = w.output
  size : w.heap.size ≤ w'.heap.size
  block : ∀ k, k < w.heap.size → ¬ S k → w'.heap[k]? = w.heap[k]?

def Is (p : Nat) : Nat → Prop := fun k => k = p
def No : Nat → Prop := fun _ => False

section
variable {S S' : Nat → Prop} {a b c w w' : World}
theorem Mods.refl (S : Nat → Prop) (w : World) : Mods S w w := ⟨rfl, rfl, rfl, Nat.le_refl _, fun _ _ _ => rfl⟩
theorem Mods.trans (h : Mods S a b) (k : Mods S b c) : Mods S a c :=
  ⟨k.os.trans h.os, k.tape.trans h.tape, k.output.trans h.output, Nat.le_trans h.size k.size, fun i hi hn => (k.block i (Nat.lt_of_lt_of_le hi h.size) hn).trans (h.block i hi hn)⟩
theorem Mods.mono (h : Mods S a b) (hS : ∀ k, S k → S' k) : Mods S' a b := ⟨h.os, h.tape, h.output, h.size, fun k hk hn => h.block k hk fun hs => hn (hS k hs)⟩
/-- A step that turns only what is new to the first world may follow. -/
theorem Mods.then (h : Mods S a b) (k : Mods S' b c) (hS : ∀ k, S' k → S k ∨ a.heap.size ≤ k) : Mods S a c :=
  ⟨k.os.trans h.os, k.tape.trans h.tape, k.output.trans h.output, Nat.le_trans h.size k.size, fun i hi hn => (k.block i (Nat.lt_of_lt_of_le hi h.size) fun hs => (hS i hs).elim hn fun hh => by omega).trans (h.block i hi hn)⟩
theorem Mods.of_below (h : Below a.heap.size a b) : Mods S a b := ⟨h.os, h.tape, h.output, h.size, fun k hk _ => h.block k hk⟩
theorem Mods.below {B : Nat} (h : Mods S a b) (hB : B ≤ a.heap.size) (hS : ∀ k, S k → B ≤ k) : Below B a b :=
  ⟨h.os, h.tape, h.output, h.size, fun k hk => h.block k (by omega) fun hs => by have := hS k hs; omega⟩
theorem Mods.drew (h : Mods S a w) : Mods S a w.drew := ⟨h.os, h.tape, h.output, h.size, h.block⟩
theorem Mods.drewN (h : Mods S a w) (n : Nat) : Mods S a (w.drewN n) := ⟨h.os, h.tape, h.output, h.size, h.block⟩
theorem Mods.un (h : Mods S a.drew w) : Mods S a w := ⟨h.os, h.tape, h.output, h.size, h.block⟩
theorem Mods.unN {n : Nat} (h : Mods S (a.drewN n) w) : Mods S a w := ⟨h.os, h.tape, h.output, h.size, h.block⟩
theorem Mods.alloc (h : Mods S a w) (o : Obj) : Mods S a (w.alloc o) :=
  ⟨h.os, h.tape, h.output, Nat.le_trans h.size (by simp), fun k hk hn => (Below.heap_alloc w o k (Nat.lt_of_lt_of_le hk h.size)).trans (h.block k hk hn)⟩
theorem Mods.setCell (h : Mods S a w) {p : Addr} (hp : S p.block ∨ a.heap.size ≤ p.block) (u : Value) : Mods S a (w.setCell p u) :=
  ⟨h.os, h.tape, h.output, Nat.le_trans h.size (by simp [World.setCell]), fun k hk hn => (Below.heap_setCell w p u k (by
    rintro rfl
    exact hp.elim hn fun hh => by omega)).trans (h.block k hk hn)⟩
theorem Mods.put {p : Nat} (h : Mods (Is p) a w) (i : Nat) (u : Value) : Mods (Is p) a (w.setCell ⟨p, i, none⟩ u) := h.setCell (p := ⟨p, i, none⟩) (.inl rfl) u
theorem Mods.grown {row : Option Nat} (h : Mods S a w) (hg : w.grownBy w' row) (hr : ∀ k, row = some k → S k ∨ a.heap.size ≤ k) : Mods S a w' :=
  ⟨hg.os.trans h.os, hg.tape.trans h.tape, hg.output.trans h.output, Nat.le_trans h.size hg.size, fun k hk hn => (hg.block k (Nat.lt_of_lt_of_le hk h.size) (fun e => by
    rcases hr k e.symm with h1 | h1
    · exact hn h1
    · omega)).trans (h.block k hk hn)⟩
theorem Mods.cell (h : Mods S w w') {p : Addr} (hp : p.block < w.heap.size) (hn : ¬ S p.block) : w'.cell? p = w.cell? p := World.cell?_of_block (w := w) (h.block p.block hp hn)
theorem Mods.frozen (h : Mods S w w') {p : Addr} (hp : p.block < w.heap.size) (hn : ¬ S p.block) : w'.frozen? p = w.frozen? p := World.frozen?_of_block (w := w) (h.block p.block hp hn)
theorem Mods.sees {B : Nat} {A : Option Addr} {xs : List Value} (h : Mods S w w') (hs : Sees w B A xs) (hB : B ≤ w.heap.size) (hA : ∀ x, A = some x → ¬ S x.block) : Sees w' B A xs := fun hn => by
  obtain ⟨b, o, rfl, hb, hc⟩ := hs hn
  exact ⟨b, o, rfl, hb, fun i u hu => (h.cell (p := ⟨b, o + i, none⟩) (by show b < _; omega) (hA ⟨b, o, none⟩ rfl)).trans (hc i u hu)⟩
theorem Mods.own {base n : Nat} {e : TypeId} {v : Value} {xs : List Value} (h : Mods S w w') (ho : w.ownsRow base e 1 v n xs) (hS : ∀ k, v.ownBlock = some k → ¬ S k) : w'.ownsRow base e 1 v n xs := by
  obtain ⟨h1, h2⟩ := ho
  refine ⟨h1, ?_⟩
  rcases h2 with h2 | ⟨g, cap, cur, rfl, hg, hh, r⟩
  · exact Or.inl h2
  · exact Or.inr ⟨g, cap, cur, rfl, hg, (h.block g (Array.getElem?_eq_some_iff.1 hh).1 (hS g (by simp [Value.ownBlock]))).trans hh, r⟩
end

/-- Block p is just the cells cs of element type T, none of them frozen. -/
def Row (w : World) (p : Nat) (T : TypeId) (cs : Array Value) : Prop := w.heap[p]? = some (.cells cs T (0, 0))

section
variable {S : Nat → Prop} {w w' : World} {p : Nat} {T : TypeId} {cs : Array Value}
theorem Row.lt (h : Row w p T cs) : p < w.heap.size := (Array.getElem?_eq_some_iff.1 h).1
theorem Row.cell (h : Row w p T cs) (i : Nat) : w.cell? ⟨p, i, none⟩ = cs[i]? := cell_of_row w p i cs T (0, 0) h
theorem Row.frozen (h : Row w p T cs) (i : Nat) : w.frozen? ⟨p, i, none⟩ = false := by
  unfold Row at h
  simp [World.frozen?, h]
theorem Row.new (w : World) (T : TypeId) (cs : Array Value) : Row (w.alloc (.cells cs T)) w.heap.size T cs := heap_alloc_new w _
theorem Row.drew (h : Row w p T cs) : Row w.drew p T cs := h
theorem Row.drewN (h : Row w p T cs) (n : Nat) : Row (w.drewN n) p T cs := h
theorem Row.alloc (h : Row w p T cs) (o : Obj) : Row (w.alloc o) p T cs := (Below.heap_alloc w o p h.lt).trans h
theorem Row.put (h : Row w p T cs) (i : Nat) (u : Value) : Row (w.setCell ⟨p, i, none⟩ u) p T (cs.setIfInBounds i u) := by
  unfold Row at h ⊢
  simp [World.setCell, Array.getElem?_modify, h]
theorem Row.far (h : Row w p T cs) {q : Addr} (hq : p ≠ q.block) (u : Value) : Row (w.setCell q u) p T cs := (Below.heap_setCell w q u p hq).trans h
theorem Row.mods (h : Row w p T cs) (hm : Mods S w w') (hp : ¬ S p) : Row w' p T cs := (hm.block p h.lt hp).trans h
theorem Row.below {B : Nat} (h : Row w p T cs) (hb : Below B w w') (hp : p < B) : Row w' p T cs := (hb.block p hp).trans h
end

end Go.Proofs.Ytacendjemomkfaa
