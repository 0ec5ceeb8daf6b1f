/-
  Three lists of pairs of one's own.
-/
import Derived.Test.YtcnkkpnfijihbaaPsPut
namespace Go.Proofs.Ytcnkkpnfijihbaa
open Go.RowKit
set_option linter.unusedVariables false

/-- Three lists of one's own, no two in one block. -/
structure P3 (w : World) (u v t : Value) (x y z : List Pr) (wr : World) : Prop where
  a : PL w u x wr
  b : PL w v y wr
  c : PL w t z wr
  ab : ∀ k, u.ownBlock = some k → v.ownBlock = some k → False
  ac : ∀ k, u.ownBlock = some k → t.ownBlock = some k → False
  bc : ∀ k, v.ownBlock = some k → t.ownBlock = some k → False

section
variable {w wr w' : World} {u v t u' : Value} {x y z : List Pr}
theorem P3.rot (h : P3 w u v t x y z wr) : P3 w v t u y z x wr := ⟨h.b, h.c, h.a, h.bc, fun k a b => h.ab k b a, fun k a b => h.ac k b a⟩
theorem P3.next (h : P3 w u v t x y z wr) (hb : Below wr.heap.size wr w') : P3 w u v t x y z w' := ⟨h.a.next hb, h.b.next hb, h.c.next hb, h.ab, h.ac, h.bc⟩
theorem PL.aside {v : Value} {l : List Pr} (h : PL w v l wr) (hd : ∀ k, u.ownBlock = some k → v.ownBlock = some k → False) {o : Obj} (hg : (wr.alloc o).grownBy w' u.ownBlock) (hu : ∀ k, u.ownBlock = some k → w.heap.size ≤ k) : PL w v l w' := by
  have hm : Mods (fun k => u.ownBlock = some k) wr w' := ((Mods.refl _ wr).alloc o).grown hg fun k hk => .inl hk
  refine ⟨hm.ownS h.own fun k hk hs => hd k hs hk, ?_⟩
  exact h.blw.trans ⟨hm.os, hm.tape, hm.output, hm.size, fun k hk => hm.block k (Nat.lt_of_lt_of_le hk h.blw.size) fun hs => by have := hu k hs; omega⟩
theorem P3.push (h : P3 w u v t x y z wr) (y1 y2 : Int) {n : Nat} (hn : n = x.length)
    (ho : w'.ownsRow w.heap.size 35 2 u' (n + 1) (prs x ++ prs [(y1, y2)])) (hg : (wr.alloc (prObj y1 y2)).grownBy w' u.ownBlock) (hv : u'.ownBlock = u.ownBlock ∨ u'.ownBlock = some (wr.heap.size + 1)) : P3 w u' v t (x ++ [(y1, y2)]) y z w' := by
  have hu : ∀ k, u.ownBlock = some k → w.heap.size ≤ k := fun k hk => (ownS_lt h.a.own k hk).1
  refine ⟨h.a.push y1 y2 hn ho hg, h.b.aside h.ab hg hu, h.c.aside h.ac hg hu, fun k h1 h2 => ?_, fun k h1 h2 => ?_, h.bc⟩
  · rcases hv with hv | hv
    · exact h.ab k (hv.symm.trans h1) h2
    · rw [hv] at h1
      have := (ownS_lt h.b.own k h2).2
      simp at h1
      omega
  · rcases hv with hv | hv
    · exact h.ac k (hv.symm.trans h1) h2
    · rw [hv] at h1
      have := (ownS_lt h.c.own k h2).2
      simp at h1
      omega
theorem P3.nil (w : World) : P3 w (.slice none 0 0) (.slice none 0 0) (.slice none 0 0) [] [] [] w := ⟨PL.nil w, PL.nil w, PL.nil w, fun k h => by simp [Value.ownBlock] at h, fun k h => by simp [Value.ownBlock] at h, fun k h => by simp [Value.ownBlock] at h⟩
theorem P3.base {w0 : World} (h : P3 w u v t x y z wr) (hb : Below w0.heap.size w0 w) : P3 w0 u v t x y z wr := ⟨h.a.base hb, h.b.base hb, h.c.base hb, h.ab, h.ac, h.bc⟩
theorem PL.beside {v : Value} {l : List Pr} (h : PL w v l wr) (hd : ∀ k, u.ownBlock = some k → v.ownBlock = some k → False) {g o : Nat} {y : Value} (hg : u.ownBlock = some g) (hl : w.heap.size ≤ g) : PL w v l (wr.setCell ⟨g, o, none⟩ y) := by
  have hm : Mods (fun k => u.ownBlock = some k) wr (wr.setCell ⟨g, o, none⟩ y) := (Mods.refl _ wr).setCell (p := ⟨g, o, none⟩) (.inl hg) y
  exact ⟨hm.ownS h.own fun k hk hs => hd k hs hk, h.blw.setCell (p := ⟨g, o, none⟩) hl y⟩
theorem P3.put1 {g n c : Nat} (h : P3 w (.slice (some ⟨g, 0, none⟩) n c) v t x y z wr) (hn : x.length = n) {k : Nat} (hk : k < x.length) (y1 : Int) :
    P3 w (.slice (some ⟨g, 0, none⟩) n c) v t (x.set k (y1, x[k].2)) y z (wr.setCell ⟨g, k * 2, none⟩ (.int .i64 y1)) :=
  ⟨h.a.put1 hn hk y1, h.b.beside h.ab rfl (ownS_lt h.a.own g rfl).1, h.c.beside h.ac rfl (ownS_lt h.a.own g rfl).1, h.ab, h.ac, h.bc⟩
/-- Three lists that have been made one after another. -/
theorem P3.of {w2 w3 : World} {u v t : Value} {x y z : List Pr} {wr : World} (ha : PL w u x w2) (hb : PL w2 v y w3) (hc : PL w3 t z wr) : P3 w u v t x y z wr where
  a := (ha.next hb.blw).next hc.blw
  b := (hb.next hc.blw).base ha.blw
  c := hc.base (ha.blw.trans (hb.blw.mono ha.blw.size))
  ab k h1 h2 := by
    have := (ownS_lt ha.own k h1).2
    have := (ownS_lt hb.own k h2).1
    omega
  ac k h1 h2 := by
    have := (ownS_lt ha.own k h1).2
    have := (ownS_lt hc.own k h2).1
    have := hb.blw.size
    omega
  bc k h1 h2 := by
    have := (ownS_lt hb.own k h1).2
    have := (ownS_lt hc.own k h2).1
    omega
end

end Go.Proofs.Ytcnkkpnfijihbaa
