/-
  What is seen stays, when a list in another block grows.
-/
import Derived.Test.YtacendjemomkfaaMem
namespace Go.Proofs.Ytacendjemomkfaa
open Go.RowKit

theorem sees_aside {V V' : World} {B p o : Nat} {xs : List Value} {row : Option Nat} (h : Sees V B (some ⟨p, o, none⟩) xs) (hg : V.grownBy V' row) (hp : p < V.heap.size) (hn : row ≠ some p) : Sees V' B (some ⟨p, o, none⟩) xs := fun hx => by
  obtain ⟨b, o', e, hb, hc⟩ := h hx
  injection e with e
  injection e with e1 e2
  subst e1 e2
  exact ⟨p, o, rfl, hb, fun i u hu => (World.cell?_of_block (w := V) (hg.block p hp fun h9 => hn h9.symm)).trans (hc i u hu)⟩

end Go.Proofs.Ytacendjemomkfaa
