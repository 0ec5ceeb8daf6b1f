/-
  A slice of the statements' reads as it came in: each element's four cells.
-/
import Derived.Test.YtjgigdmjciedpaaMem
import Derived.Deep.Slices
import Derived.Deep.Fields
namespace Go.Proofs.Ytjgigdmjciedpaa
open Go.RowKit Go.ChangeShapes Go.WideShapes Go.Deep
set_option linter.unusedVariables false

section
variable {H : Type} {enc : TypeId × Value → H} {P : Program} {w : World} {base : Nat} {spare : Nat → Bool} {held : Bool}
/-- A slice of structs of one-cell fields: nil, or the cells of each element, each with the reading of its field. -/
theorem trod_recs {t e : TypeId} {fs : Array Field} {fuel : Nat} {cs : List Value} {x : DataW H × List MemPlace} (ht : P.underlying t = some (.slice e)) (he : P.underlying e = some (.struct fs))
    (hone : oneCellFields P fs = true) (hC : P.cellsOf e = fs.size) (h : DataW.trod enc P w base spare held fuel t cs = some x) :
    cs = [.slice none 0 0] ∨
    ∃ (a : Addr) (len cap : Nat), cs = [.slice (some a) len cap] ∧ len ≤ cap ∧ cap ≤ maxLen ∧
      ∀ i, i < len → ∀ (j : Nat) (f : Field), fs[j]? = some f → ∃ (v : Value) (n : Nat) (y : DataW H × List MemPlace), w.cell? (a.add (i * fs.size + j)) = some v ∧ DataW.trod enc P w base spare held n f.type [v] = some y := by
  rcases open_slice ht h with ⟨h0, _⟩ | ⟨a, len, cap, m, n, D, Pl, hcs, _, hl, hm, hmm, _, hi⟩
  · exact .inl h0
  · refine .inr ⟨a, len, cap, hcs, hl, hm, fun i hil j f hj => ?_⟩
    have him : i < m := by
      rw [hmm]
      split <;> omega
    obtain ⟨cs', hc, htr⟩ := hi i him
    rw [hC] at hc
    obtain ⟨ys, n', _, _, _, hyl, hf⟩ := DataW.trod_struct he htr
    obtain ⟨_, hcl, hat⟩ := World.cells?_some hc
    obtain ⟨h1, h2⟩ := hone_of hone j f hj
    have hjl : j < fs.size := (Array.getElem?_eq_some_iff.1 hj).1
    have hjc : j < cs'.length := by omega
    have hy := hf j f hj
    rw [h1, h2, List.drop_eq_getElem_cons hjc, List.take_succ_cons, List.take_zero, List.getElem?_eq_getElem (by omega : j < ys.length)] at hy
    refine ⟨cs'[j], n', ys[j]'(by omega), ?_, hy⟩
    have := hat j hjl
    rw [Go.Deep.add_add, List.getElem?_eq_getElem hjc] at this
    exact this
end

/-- The slice address a shows len reads, each of four numbers. -/
def IsReads (w : World) (a : Option Addr) (len cap : Nat) : Prop :=
  len ≤ cap ∧ cap ≤ maxLen ∧ (0 < len → ∃ b o : Nat, a = some ⟨b, o, none⟩ ∧ b < w.heap.size ∧ ∀ i, i < len → ∃ k x y m : Int,
    (w.cell? ⟨b, o + i * 4, none⟩ = some (.int .i64 k) ∧ w.cell? ⟨b, o + i * 4 + 1, none⟩ = some (.int .i64 x) ∧ w.cell? ⟨b, o + i * 4 + 2, none⟩ = some (.int .i64 y) ∧ w.cell? ⟨b, o + i * 4 + 3, none⟩ = some (.int .u64 m)) ∧
    (Lit.int .i64 k).wf = true ∧ (Lit.int .i64 x).wf = true ∧ (Lit.int .i64 y).wf = true ∧ (Lit.int .u64 m).wf = true)

theorem IsReads.of {H : Type} {enc : TypeId × Value → H} {w : World} {base : Nat} {spare : Nat → Bool} {held : Bool} {fuel : Nat} {a : Option Addr} {len cap : Nat} {x : DataW H × List MemPlace}
    (h : DataW.trod enc Try.prog w base spare held fuel 23 [.slice a len cap] = some x) : IsReads w a len cap := by
  have hu := Try.underlying31
  rcases trod_recs Try.underlying23 hu (by kernel_rfl) (by kernel_rfl) h with h0 | ⟨ad, l, c, hcs, hl, hm, hi⟩
  · injection h0 with h0 _
    injection h0 with h1 h2 h3
    subst h2
    subst h3
    exact ⟨Nat.le_refl _, Nat.zero_le _, fun h => absurd h (by omega)⟩
  · injection hcs with h0 _
    injection h0 with h1 h2 h3
    subst h1
    subst h2
    subst h3
    refine ⟨hl, hm, fun h0 => ?_⟩
    have key : ∀ i, i < len → ∃ k x y m : Int, (w.cell? (ad.add (i * 4 + 0)) = some (.int .i64 k) ∧ w.cell? (ad.add (i * 4 + 1)) = some (.int .i64 x) ∧ w.cell? (ad.add (i * 4 + 2)) = some (.int .i64 y) ∧ w.cell? (ad.add (i * 4 + 3)) = some (.int .u64 m)) ∧
        (Lit.int .i64 k).wf = true ∧ (Lit.int .i64 x).wf = true ∧ (Lit.int .i64 y).wf = true ∧ (Lit.int .u64 m).wf = true := fun i hil => by
      obtain ⟨v0, n0, y0, c0, t0⟩ := hi i hil 0 _ rfl
      obtain ⟨v1, n1, y1, c1, t1⟩ := hi i hil 1 _ rfl
      obtain ⟨v2, n2, y2, c2, t2⟩ := hi i hil 2 _ rfl
      obtain ⟨v3, n3, y3, c3, t3⟩ := hi i hil 3 _ rfl
      obtain ⟨k, e0, _, w0⟩ := DataW.trod_int Try.underlying3 t0
      obtain ⟨x, e1, _, w1⟩ := DataW.trod_int Try.underlying3 t1
      obtain ⟨y, e2, _, w2⟩ := DataW.trod_int Try.underlying3 t2
      obtain ⟨m, e3, _, w3⟩ := DataW.trod_int Try.underlying29 t3
      injection e0 with e0 _; subst e0
      injection e1 with e1 _; subst e1
      injection e2 with e2 _; subst e2
      injection e3 with e3 _; subst e3
      exact ⟨k, x, y, m, ⟨c0, c1, c2, c3⟩, w0, w1, w2, w3⟩
    obtain ⟨_, _, _, _, ⟨cc, _⟩, _⟩ := key 0 h0
    obtain ⟨b, o, s⟩ := ad
    have hs : s = none := by simpa [Addr.add] using World.cell?_spot cc
    subst hs
    refine ⟨b, o, rfl, World.block_lt_of_cell? w _ (by simpa [Addr.add] using cc), fun i hil => ?_⟩
    obtain ⟨k, x, y, m, ⟨c0, c1, c2, c3⟩, hw⟩ := key i hil
    simp only [Addr.add_lit] at c0 c1 c2 c3
    refine ⟨k, x, y, m, ⟨?_, ?_, ?_, ?_⟩, hw⟩
    · rw [← c0]
      congr 2
    · rw [← c1, Nat.add_assoc]
    · rw [← c2, Nat.add_assoc]
    · rw [← c3, Nat.add_assoc]

end Go.Proofs.Ytjgigdmjciedpaa
