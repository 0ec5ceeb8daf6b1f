/-
  Blocks that are known whole, behind stores of several cells into their middle.
-/
import Derived.Test.YtcindgaonaloeaaMem
import Derived.Deep.MidRow
namespace Go.Proofs.Ytcindgaonaloeaa
open Go.RowKit
set_option linter.unusedVariables false

/-- An array behind a store of the cells vs from o on. -/
def setA (cs : Array Value) (o : Nat) : List Value → Array Value
  | [] => cs
  | v :: r => setA (cs.setIfInBounds o v) (o + 1) r
theorem setA_size : ∀ (vs : List Value) (cs : Array Value) (o : Nat), (setA cs o vs).size = cs.size
  | [], cs, o => rfl
  | v :: r, cs, o => by rw [setA, setA_size r, Array.size_setIfInBounds]
theorem setA_out : ∀ (vs : List Value) (cs : Array Value) (o j : Nat), j < o ∨ o + vs.length ≤ j → (setA cs o vs)[j]? = cs[j]?
  | [], cs, o, j, h => rfl
  | v :: r, cs, o, j, h => by
    simp only [List.length_cons] at h
    rw [setA, setA_out r _ _ _ (by omega), Array.getElem?_setIfInBounds, if_neg (by omega)]
theorem setA_in : ∀ (vs : List Value) (cs : Array Value) (o i : Nat) (v : Value), vs[i]? = some v → o + vs.length ≤ cs.size → (setA cs o vs)[o + i]? = some v
  | [], cs, o, i, v, h, _ => by simp at h
  | y :: r, cs, o, 0, v, h, hs => by
    simp only [List.length_cons] at hs
    simp only [List.getElem?_cons_zero, Option.some.injEq] at h
    subst h
    rw [setA, setA_out r _ _ _ (by omega), Nat.add_zero, Array.getElem?_setIfInBounds, if_pos rfl, if_pos (by omega)]
  | y :: r, cs, o, i + 1, v, h, hs => by
    simp only [List.length_cons] at hs
    rw [List.getElem?_cons_succ] at h
    rw [setA, show o + (i + 1) = o + 1 + i by omega]
    exact setA_in r _ _ i v h (by rw [Array.size_setIfInBounds]; omega)

section
variable {w : World} {p q : Nat} {T : TypeId} {cs : Array Value}
theorem Row.there (h : Row w p T cs) (o n : Nat) (hn : o + n ≤ cs.size) : w.there p o n := fun j hj =>
  ⟨by rw [h.cell, Array.getElem?_eq_getElem (by omega)]; rfl, h.frozen _⟩
theorem Row.writes : ∀ (vs : List Value) {w : World} {cs : Array Value} (o : Nat), Row w p T cs → Row (w.setCells p o vs) p T (setA cs o vs)
  | [], _, _, _, h => h
  | v :: r, w, cs, o, h => Row.writes r (o + 1) (h.put o v)
theorem Row.farc : ∀ (vs : List Value) {w : World} (o : Nat), p ≠ q → Row w p T cs → Row (w.setCells q o vs) p T cs
  | [], _, _, _, h => h
  | v :: r, w, o, hq, h => Row.farc r (o + 1) hq (h.far (q := ⟨q, o, none⟩) hq v)
theorem blw_setCells {B : Nat} {a : World} (hp : B ≤ p) : ∀ (vs : List Value) {w : World} (o : Nat), Below B a w → Below B a (w.setCells p o vs)
  | [], _, _, h => h
  | v :: r, w, o, h => blw_setCells hp r (o + 1) (h.setCell (p := ⟨p, o, none⟩) hp v)
end

end Go.Proofs.Ytcindgaonaloeaa
