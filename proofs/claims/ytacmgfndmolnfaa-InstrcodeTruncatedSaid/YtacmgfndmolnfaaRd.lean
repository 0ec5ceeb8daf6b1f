/-
  Reading structs and slices that came in; terminators.
-/
import Derived.Test.YtacmgfndmolnfaaPk1
import Derived.Deep.Slices
import Derived.Deep.Fields
namespace Go.Proofs.Ytacmgfndmolnfaa
open Go.RowKit Go.ChangeShapes Go.WideShapes Go.Deep
set_option linter.unusedVariables false

def I64 (x : Int) : Prop := (Lit.int .i64 x).wf = true
def Tm.Wf (t : Tm) : Prop := I64 t.kind ∧ I64 t.a ∧ I64 t.to ∧ I64 t.el


section
variable {H : Type} {enc : TypeId × Value → H} {P : Program} {w : World} {base : Nat} {spare : Nat → Bool} {held : Bool}
/-- A one-cell field of an integer's type. -/
theorem fld_int {ft : TypeId} {n k i : Nat} {cs : List Value} {xs : List (DataW H × List MemPlace)} (hu : P.underlying ft = some (.int .i64)) (hc : P.cellsOf ft = 1)
    (hx : DataW.trod enc P w base spare held n ft ((cs.drop k).take (P.cellsOf ft)) = xs[i]?) (hi : i < xs.length) (hk : k < cs.length) : ∃ v : Int, cs[k]? = some (.int .i64 v) ∧ I64 v := by
  rw [hc, List.drop_eq_getElem_cons hk, List.take_succ_cons, List.take_zero, List.getElem?_eq_getElem hi] at hx
  obtain ⟨v, e, _, hw⟩ := DataW.trod_int hu hx
  injection e with e _
  exact ⟨v, by rw [List.getElem?_eq_getElem hk, e], hw⟩
theorem fld_cell {ft : TypeId} {n k i : Nat} {cs : List Value} {xs : List (DataW H × List MemPlace)} (hc : P.cellsOf ft = 1)
    (hx : DataW.trod enc P w base spare held n ft ((cs.drop k).take (P.cellsOf ft)) = xs[i]?) (hi : i < xs.length) (hk : k < cs.length) : ∃ v y, cs[k]? = some v ∧ DataW.trod enc P w base spare held n ft [v] = some y := by
  rw [hc, List.drop_eq_getElem_cons hk, List.take_succ_cons, List.take_zero, List.getElem?_eq_getElem hi] at hx
  exact ⟨cs[k], _, List.getElem?_eq_getElem hk, hx⟩
/-- A slice that came in: nil, or its elements' cells, each with its reading. -/
theorem trod_elems {t e : TypeId} {s : Nat} {fuel : Nat} {a : Option Addr} {len cap : Nat} {x : DataW H × List MemPlace} (ht : P.underlying t = some (.slice e)) (hC : P.cellsOf e = s) (h0 : 0 < s)
    (h : DataW.trod enc P w base spare held fuel t [.slice a len cap] = some x) :
    len ≤ cap ∧ cap ≤ maxLen ∧ ∀ i, i < len → ∃ b o n cs y, a = some ⟨b, o, none⟩ ∧ b < w.heap.size ∧ cs.length = s ∧ (∀ j, j < s → w.cell? ⟨b, o + (i * s + j), none⟩ = cs[j]?) ∧ DataW.trod enc P w base spare held n e cs = some y := by
  rcases open_slice ht h with ⟨h0, _⟩ | ⟨ad, l, c, m, n, D, Pl, hcs, _, hl, hm, hmm, _, hi⟩
  · injection h0 with h0 _
    injection h0 with h1 h2 h3
    subst h2
    subst h3
    exact ⟨Nat.le_refl _, Nat.zero_le _, fun i hi => by omega⟩
  · injection hcs with h0 _
    injection h0 with h1 h2 h3
    subst h1
    subst h2
    subst h3
    have hlm : len ≤ m := by rw [hmm]; split <;> omega
    refine ⟨hl, hm, fun i hil => ?_⟩
    obtain ⟨c0, hc0, _⟩ := hi 0 (by omega)
    rw [hC] at hc0
    obtain ⟨_, hcl0, hat0⟩ := World.cells?_some hc0
    have hz := hat0 0 (by omega)
    rw [Go.Deep.add_add, Nat.zero_mul, List.getElem?_eq_getElem (by omega)] at hz
    obtain ⟨b, o, sp⟩ := ad
    have hs : sp = none := by simpa [Addr.add] using World.cell?_spot hz
    subst hs
    obtain ⟨cs', hc, htr⟩ := hi i (by omega)
    rw [hC] at hc
    obtain ⟨_, hcl, hat⟩ := World.cells?_some hc
    refine ⟨b, o, n, cs', _, rfl, World.block_lt_of_cell? w _ (by simpa [Addr.add] using hz), hcl, fun j hj => ?_, htr⟩
    have := hat j hj
    rwa [Go.Deep.add_add, Addr.add_lit] at this
end

theorem len3 {α : Type} {l : List α} (h : l.length = 3) : ∃ a b c, l = [a, b, c] := by
  rcases l with _ | ⟨a, _ | ⟨b, _ | ⟨c, _ | ⟨d, r⟩⟩⟩⟩ <;> simp at h
  exact ⟨_, _, _, rfl⟩
theorem len4 {α : Type} {l : List α} (h : l.length = 4) : ∃ a b c d, l = [a, b, c, d] := by
  rcases l with _ | ⟨a, _ | ⟨b, _ | ⟨c, _ | ⟨d, _ | ⟨e, r⟩⟩⟩⟩⟩ <;> simp at h
  exact ⟨_, _, _, _, rfl⟩
theorem len5 {α : Type} {l : List α} (h : l.length = 5) : ∃ a b c d e, l = [a, b, c, d, e] := by
  rcases l with _ | ⟨a, _ | ⟨b, _ | ⟨c, _ | ⟨d, _ | ⟨e, _ | ⟨f, r⟩⟩⟩⟩⟩⟩ <;> simp at h
  exact ⟨_, _, _, _, _, rfl⟩

theorem Tm.of {H : Type} {enc : TypeId × Value → H} {w : World} {base : Nat} {spare : Nat → Bool} {held : Bool} {fuel : Nat} {cs : List Value} {x : DataW H × List MemPlace} (h : DataW.trod enc Try.prog w base spare held fuel 37 cs = some x) : ∃ t : Tm, cs = [.int .i64 t.kind, .int .i64 t.a, .int .i64 t.to, .int .i64 t.el] ∧ t.Wf := by
  obtain ⟨xs, n, _, _, hl, hxl, hf⟩ := DataW.trod_struct Try.underlying37 h
  have h5 : cs.length = 4 := hl.trans (by kernel_rfl)
  have hx5 : xs.length = 4 := hxl
  obtain ⟨v0, e0, w0⟩ := fld_int (k := 0) Try.underlying3 (by kernel_rfl) (hf 0 _ rfl) (by omega) (by rw [h5]; decide)
  obtain ⟨v1, e1, w1⟩ := fld_int (k := 1) Try.underlying3 (by kernel_rfl) (hf 1 _ rfl) (by omega) (by rw [h5]; decide)
  obtain ⟨v2, e2, w2⟩ := fld_int (k := 2) Try.underlying3 (by kernel_rfl) (hf 2 _ rfl) (by omega) (by rw [h5]; decide)
  obtain ⟨v3, e3, w3⟩ := fld_int (k := 3) Try.underlying3 (by kernel_rfl) (hf 3 _ rfl) (by omega) (by rw [h5]; decide)
  refine ⟨⟨v0, v1, v2, v3⟩, ?_, w0, w1, w2, w3⟩
  obtain ⟨a, b, c, d, rfl⟩ := len4 h5
  simp only [List.getElem?_cons_zero, List.getElem?_cons_succ, Option.some.injEq] at e0 e1 e2 e3
  rw [e0, e1, e2, e3]

end Go.Proofs.Ytacmgfndmolnfaa
