import Derived.Test.YtkapmfopfddmbaaPk1
import Derived.Test.YtkapmfopfddmbaaPk3
import Derived.Laws.EntriesVeiled
import Derived.Deep.RegionWith
import Derived.Deep.RegionHeld3
import Derived.Deep.DeepMust
import Derived.LoopTactic
import Derived.Below
import Derived.Deep.LoopGhost
import Derived.Deep.Slices
import Derived.Deep.Fields

/-
  The program's functions on one instruction: isMove, extend, moveError, otherError, the finder and its two functions, Instr.
-/
namespace Go.Proofs.Ytkapmfopfddmbaa
open Go.RowKit
set_option linter.unusedVariables false

/-- The first field of a move that is not 0. -/
theorem zf_ways (x : Mi) : (x.zf = true ∧ ((x.d != 0) = true ∨ ((x.d != 0) = false ∧ ((x.a != 0) = true ∨ ((x.a != 0) = false ∧ ((x.b != 0) = true ∨ ((x.b != 0) = false ∧ (x.imm != 0) = true))))))) ∨
    (x.zf = false ∧ (x.d != 0) = false ∧ (x.a != 0) = false ∧ (x.b != 0) = false ∧ (x.imm != 0) = false) := by
  unfold Mi.zf
  cases (x.d != 0) <;> cases (x.a != 0) <;> cases (x.b != 0) <;> cases (x.imm != 0) <;> decide

end Go.Proofs.Ytkapmfopfddmbaa

/-
  The finder: newFinder, find, and the program's Instr.
-/
namespace Go.Proofs.Ytkapmfopfddmbaa
open Go.RowKit
set_option linter.unusedVariables false

/-- The blocks p and q hold these numbers. -/
structure Fin2 (w : World) (p q : Nat) (regs slots : Int) : Prop where
  p : w.cell? ⟨p, 0, none⟩ = some (.int .i64 regs)
  q : w.cell? ⟨q, 0, none⟩ = some (.int .i64 slots)

theorem Fin2.lt {w : World} {p q : Nat} {regs slots : Int} (h : Fin2 w p q regs slots) : p < w.heap.size ∧ q < w.heap.size :=
  ⟨World.block_lt_of_cell? w _ h.p, World.block_lt_of_cell? w _ h.q⟩

theorem Fin2.below {w w' : World} {p q B : Nat} {regs slots : Int} (h : Fin2 w p q regs slots) (hb : Below B w w') (hp : p < B) (hq : q < B) : Fin2 w' p q regs slots :=
  ⟨(hb.cell (p := ⟨p, 0, none⟩) hp).trans h.p, (hb.cell (p := ⟨q, 0, none⟩) hq).trans h.q⟩

theorem Fin2.next {w w' : World} {p q : Nat} {regs slots : Int} (h : Fin2 w p q regs slots) (hb : Below w.heap.size w w') : Fin2 w' p q regs slots := h.below hb h.lt.1 h.lt.2

/-- What a walk carries that holds one instruction in its first block. -/
structure GI (w : World) (x : Mi) (W : World) : Prop where
  below : Below w.heap.size w W
  i : Row W w.heap.size 97 #[.int .i64 x.op, .int .i64 x.d, .int .i64 x.a, .int .i64 x.b, .int .i64 x.imm, .int .i64 x.dst, .int .i64 x.src]

section
variable {w : World} {x : Mi} {W W' : World}

theorem GI.next (h : GI w x W) (hb : Below W.heap.size W W') : GI w x W' := ⟨h.below.trans (hb.mono h.below.size), h.i.below hb h.i.lt⟩

theorem blw_drew (w : World) (n : Nat) : Below w.heap.size w (w.drewN n) := blw_drewN (Below.refl _ _) n

theorem GI.drewN (h : GI w x W) (n : Nat) : GI w x (W.drewN n) := h.next (blw_drew W n)

theorem GI.drew (h : GI w x W) : GI w x W.drew := h.drewN 1

theorem Fin2.drewN {p q : Nat} {regs slots : Int} (h : Fin2 W p q regs slots) (n : Nat) : Fin2 (W.drewN n) p q regs slots := h.next (blw_drew W n)

theorem Fin2.drew {p q : Nat} {regs slots : Int} (h : Fin2 W p q regs slots) : Fin2 W.drew p q regs slots := h.drewN 1

def GI.S (w : World) (x : Mi) (W : World) : Prop :=
  GI w x W ∧ W.cell? ⟨w.heap.size, 0, none⟩ = some (.int .i64 x.op) ∧ W.cell? ⟨w.heap.size, 1, none⟩ = some (.int .i64 x.d) ∧ W.cell? ⟨w.heap.size, 2, none⟩ = some (.int .i64 x.a) ∧ W.cell? ⟨w.heap.size, 3, none⟩ = some (.int .i64 x.b) ∧ W.cell? ⟨w.heap.size, 4, none⟩ = some (.int .i64 x.imm) ∧ W.cell? ⟨w.heap.size, 5, none⟩ = some (.int .i64 x.dst) ∧ W.cell? ⟨w.heap.size, 6, none⟩ = some (.int .i64 x.src)

theorem GI.cells (h : GI w x W) : GI.S w x W := ⟨h, h.i.cell 0, h.i.cell 1, h.i.cell 2, h.i.cell 3, h.i.cell 4, h.i.cell 5, h.i.cell 6⟩

end

end Go.Proofs.Ytkapmfopfddmbaa

/-
  Code of both; checkSizes; checkCode.
-/
namespace Go.Proofs.Ytkapmfopfddmbaa
open Go.RowKit
set_option linter.unusedVariables false

theorem msizes_ways (args regs slots : Int) (bs : List MBlk) (hm : bs.length ≤ 1000) (hn : mcodeN bs ≤ 1000000) :
    (args < 0 ∧ eMSz args regs slots bs = 10) ∨ (0 ≤ args ∧ slots < args ∧ eMSz args regs slots bs = 10) ∨ (0 ≤ args ∧ args ≤ slots ∧ ((regs < 0 ∧ eMSz args regs slots bs = 9) ∨ (0 ≤ regs ∧ ((1048576 < slots ∧ eMSz args regs slots bs = 6) ∨
      (slots ≤ 1048576 ∧ ((1048576 < regs ∧ eMSz args regs slots bs = 6) ∨ (regs ≤ 1048576 ∧ ((bs.length = 0 ∧ eMSz args regs slots bs = 14) ∨ (0 < bs.length ∧ eMSz args regs slots bs = 0))))))))) := by
  unfold eMSz
  by_cases h1 : args < 0
  · exact .inl ⟨h1, by rw [if_pos (.inl h1)]⟩
  · by_cases h2 : slots < args
    · exact .inr (.inl ⟨by omega, h2, by rw [if_pos (.inr h2)]⟩)
    · refine .inr (.inr ⟨by omega, by omega, ?_⟩)
      rw [if_neg (by omega)]
      by_cases h0 : regs < 0
      · exact .inl ⟨h0, by rw [if_pos h0]⟩
      · refine .inr ⟨by omega, ?_⟩
        rw [if_neg h0]
        by_cases h3 : 1048576 < slots
        · exact .inl ⟨h3, by rw [if_pos (.inl h3)]⟩
        · refine .inr ⟨by omega, ?_⟩
          by_cases h5 : 1048576 < regs
          · exact .inl ⟨h5, by rw [if_pos (.inr h5)]⟩
          · refine .inr ⟨by omega, ?_⟩
            rw [if_neg (by omega)]
            by_cases h4 : bs.length = 0
            · exact .inl ⟨h4, by rw [if_pos h4]⟩
            · exact .inr ⟨by omega, by rw [if_neg h4, if_neg (by omega)]⟩

end Go.Proofs.Ytkapmfopfddmbaa

/-
  The reference's Few of layer 8.
-/
namespace Go.Proofs.Ytkapmfopfddmbaa
open Go.RowKit
set_option linter.unusedVariables false

/-- What Few says: few blocks, registers and instructions. -/
def FewM (regs slots : Int) (bs : List MBlk) : Prop := bs.length ≤ 40 ∧ regs ≤ 60 ∧ slots ≤ 60 ∧ mcodeN bs ≤ 900

def FewM.P (regs slots : Int) (bs : List MBlk) (w : World) (e : Ending) (w' : World) : Prop := (∃ b, e = .returned (.bool b) ∧ (b = true → FewM regs slots bs)) ∧ Below w.heap.size w w'

end Go.Proofs.Ytkapmfopfddmbaa

/-
  Moves, of the program and of the reference.
-/
namespace Go.Proofs.Ytkapmfopfddmbaa
open Go.RowKit
set_option linter.unusedVariables false

end Go.Proofs.Ytkapmfopfddmbaa

/-
  Code of both; checkSizes.
-/
namespace Go.Proofs.Ytkapmfopfddmbaa
open Go.RowKit
set_option linter.unusedVariables false

theorem sizes_ways (args regs : Int) (bs : List Blk) (hm : bs.length ≤ 1000) (hn : codeN bs ≤ 1000000) :
    (args < 0 ∧ eSz args regs bs = 9) ∨ (0 ≤ args ∧ regs < args ∧ eSz args regs bs = 9) ∨ (0 ≤ args ∧ args ≤ regs ∧ ((1048576 < regs ∧ eSz args regs bs = 6) ∨ (regs ≤ 1048576 ∧ ((bs.length = 0 ∧ eSz args regs bs = 14) ∨ (0 < bs.length ∧ eSz args regs bs = 0))))) := by
  unfold eSz
  by_cases h1 : args < 0
  · exact .inl ⟨h1, by rw [if_pos (.inl h1)]⟩
  · by_cases h2 : regs < args
    · exact .inr (.inl ⟨by omega, h2, by rw [if_pos (.inr h2)]⟩)
    · refine .inr (.inr ⟨by omega, by omega, ?_⟩)
      rw [if_neg (by omega)]
      by_cases h3 : 1048576 < regs
      · exact .inl ⟨h3, by rw [if_pos h3]⟩
      · refine .inr ⟨by omega, ?_⟩
        rw [if_neg h3]
        by_cases h4 : bs.length = 0
        · exact .inl ⟨h4, by rw [if_pos h4]⟩
        · exact .inr ⟨by omega, by rw [if_neg h4, if_neg (by omega)]⟩

end Go.Proofs.Ytkapmfopfddmbaa

/-
  The reference's Few.
-/
namespace Go.Proofs.Ytkapmfopfddmbaa
open Go.RowKit
set_option linter.unusedVariables false

/-- What Few says: few blocks, registers and instructions. -/
def FewF (regs : Int) (bs : List Blk) : Prop := bs.length ≤ 40 ∧ regs ≤ 60 ∧ codeN bs ≤ 300

def FewF.P (regs : Int) (bs : List Blk) (w : World) (e : Ending) (w' : World) : Prop := (∃ b, e = .returned (.bool b) ∧ (b = true → FewF regs bs)) ∧ Below w.heap.size w w'

end Go.Proofs.Ytkapmfopfddmbaa

/-
  Reading structs and slices that came in; terminators.
-/
namespace Go.Proofs.Ytkapmfopfddmbaa
open Go.RowKit Go.ChangeShapes Go.WideShapes Go.Deep
set_option linter.unusedVariables false

def I64 (x : Int) : Prop := (Lit.int .i64 x).wf = true

def Tm.Wf (t : Tm) : Prop := I64 t.kind ∧ I64 t.a ∧ I64 t.to ∧ I64 t.el


section
variable {H : Type} {enc : TypeId × Value → H} {P : Program} {w : World} {base : Nat} {spare : Nat → Bool} {held : Bool}

/-- A one-cell field of an integer's type. -/
theorem fld_int {ft : TypeId} {n k i : Nat} {cs : List Value} {xs : List (DataW H × List MemPlace)} (hu : P.underlying ft = some (.int .i64)) (hc : P.cellsOf ft = 1)
    (hx : DataW.trod enc P w base spare held n ft ((cs.drop k).take (P.cellsOf ft)) = xs[i]?) (hi : i < xs.length) (hk : k < cs.length) : ∃ v : Int, cs[k]? = some (.int .i64 v) ∧ I64 v := by
  rw [hc, List.drop_eq_getElem_cons hk, List.take_succ_cons, List.take_zero, List.getElem?_eq_getElem hi] at hx
  obtain ⟨v, e, _, hw⟩ := DataW.trod_int hu hx
  injection e with e _
  exact ⟨v, by rw [List.getElem?_eq_getElem hk, e], hw⟩

theorem fld_cell {ft : TypeId} {n k i : Nat} {cs : List Value} {xs : List (DataW H × List MemPlace)} (hc : P.cellsOf ft = 1)
    (hx : DataW.trod enc P w base spare held n ft ((cs.drop k).take (P.cellsOf ft)) = xs[i]?) (hi : i < xs.length) (hk : k < cs.length) : ∃ v y, cs[k]? = some v ∧ DataW.trod enc P w base spare held n ft [v] = some y := by
  rw [hc, List.drop_eq_getElem_cons hk, List.take_succ_cons, List.take_zero, List.getElem?_eq_getElem hi] at hx
  exact ⟨cs[k], _, List.getElem?_eq_getElem hk, hx⟩

/-- A slice that came in: nil, or its elements' cells, each with its reading. -/
theorem trod_elems {t e : TypeId} {s : Nat} {fuel : Nat} {a : Option Addr} {len cap : Nat} {x : DataW H × List MemPlace} (ht : P.underlying t = some (.slice e)) (hC : P.cellsOf e = s) (h0 : 0 < s)
    (h : DataW.trod enc P w base spare held fuel t [.slice a len cap] = some x) :
    len ≤ cap ∧ cap ≤ maxLen ∧ ∀ i, i < len → ∃ b o n cs y, a = some ⟨b, o, none⟩ ∧ b < w.heap.size ∧ cs.length = s ∧ (∀ j, j < s → w.cell? ⟨b, o + (i * s + j), none⟩ = cs[j]?) ∧ DataW.trod enc P w base spare held n e cs = some y := by
  rcases open_slice ht h with ⟨h0, _⟩ | ⟨ad, l, c, m, n, D, Pl, hcs, _, hl, hm, hmm, _, hi⟩
  · injection h0 with h0 _
    injection h0 with h1 h2 h3
    subst h2
    subst h3
    exact ⟨Nat.le_refl _, Nat.zero_le _, fun i hi => by omega⟩
  · injection hcs with h0 _
    injection h0 with h1 h2 h3
    subst h1
    subst h2
    subst h3
    have hlm : len ≤ m := by rw [hmm]; split <;> omega
    refine ⟨hl, hm, fun i hil => ?_⟩
    obtain ⟨c0, hc0, _⟩ := hi 0 (by omega)
    rw [hC] at hc0
    obtain ⟨_, hcl0, hat0⟩ := World.cells?_some hc0
    have hz := hat0 0 (by omega)
    rw [Go.Deep.add_add, Nat.zero_mul, List.getElem?_eq_getElem (by omega)] at hz
    obtain ⟨b, o, sp⟩ := ad
    have hs : sp = none := by simpa [Addr.add] using World.cell?_spot hz
    subst hs
    obtain ⟨cs', hc, htr⟩ := hi i (by omega)
    rw [hC] at hc
    obtain ⟨_, hcl, hat⟩ := World.cells?_some hc
    refine ⟨b, o, n, cs', _, rfl, World.block_lt_of_cell? w _ (by simpa [Addr.add] using hz), hcl, fun j hj => ?_, htr⟩
    have := hat j hj
    rwa [Go.Deep.add_add, Addr.add_lit] at this

end

theorem len3 {α : Type} {l : List α} (h : l.length = 3) : ∃ a b c, l = [a, b, c] := by
  rcases l with _ | ⟨a, _ | ⟨b, _ | ⟨c, _ | ⟨d, r⟩⟩⟩⟩ <;> simp at h
  exact ⟨_, _, _, rfl⟩

theorem len4 {α : Type} {l : List α} (h : l.length = 4) : ∃ a b c d, l = [a, b, c, d] := by
  rcases l with _ | ⟨a, _ | ⟨b, _ | ⟨c, _ | ⟨d, _ | ⟨e, r⟩⟩⟩⟩⟩ <;> simp at h
  exact ⟨_, _, _, _, rfl⟩

theorem len5 {α : Type} {l : List α} (h : l.length = 5) : ∃ a b c d e, l = [a, b, c, d, e] := by
  rcases l with _ | ⟨a, _ | ⟨b, _ | ⟨c, _ | ⟨d, _ | ⟨e, _ | ⟨f, r⟩⟩⟩⟩⟩⟩ <;> simp at h
  exact ⟨_, _, _, _, _, rfl⟩

theorem Tm.of {H : Type} {enc : TypeId × Value → H} {w : World} {base : Nat} {spare : Nat → Bool} {held : Bool} {fuel : Nat} {cs : List Value} {x : DataW H × List MemPlace} (h : DataW.trod enc Try.prog w base spare held fuel 101 cs = some x) : ∃ t : Tm, cs = [.int .i64 t.kind, .int .i64 t.a, .int .i64 t.to, .int .i64 t.el] ∧ t.Wf := by
  obtain ⟨xs, n, _, _, hl, hxl, hf⟩ := DataW.trod_struct Try.underlying101 h
  have h5 : cs.length = 4 := hl.trans (by kernel_rfl)
  have hx5 : xs.length = 4 := hxl
  obtain ⟨v0, e0, w0⟩ := fld_int (k := 0) Try.underlying3 (by kernel_rfl) (hf 0 _ rfl) (by omega) (by rw [h5]; decide)
  obtain ⟨v1, e1, w1⟩ := fld_int (k := 1) Try.underlying3 (by kernel_rfl) (hf 1 _ rfl) (by omega) (by rw [h5]; decide)
  obtain ⟨v2, e2, w2⟩ := fld_int (k := 2) Try.underlying3 (by kernel_rfl) (hf 2 _ rfl) (by omega) (by rw [h5]; decide)
  obtain ⟨v3, e3, w3⟩ := fld_int (k := 3) Try.underlying3 (by kernel_rfl) (hf 3 _ rfl) (by omega) (by rw [h5]; decide)
  refine ⟨⟨v0, v1, v2, v3⟩, ?_, w0, w1, w2, w3⟩
  obtain ⟨a, b, c, d, rfl⟩ := len4 h5
  simp only [List.getElem?_cons_zero, List.getElem?_cons_succ, Option.some.injEq] at e0 e1 e2 e3
  rw [e0, e1, e2, e3]

end Go.Proofs.Ytkapmfopfddmbaa

/-
  Allocated functions and machine instructions as they come in.
-/
namespace Go.Proofs.Ytkapmfopfddmbaa
open Go.RowKit Go.ChangeShapes Go.WideShapes Go.Deep
set_option linter.unusedVariables false
set_option maxRecDepth 100000

def Mi.Wf (x : Mi) : Prop := I64 x.op ∧ I64 x.d ∧ I64 x.a ∧ I64 x.b ∧ I64 x.imm ∧ I64 x.dst ∧ I64 x.src

def MBlk.Wf (x : MBlk) : Prop := (∀ y ∈ x.code, y.Wf) ∧ x.term.Wf

theorem I64.fits {x : Int} (h : I64 x) : Fits x := i64_of_wf h

theorem Mi.Wf.ok {x : Mi} (h : x.Wf) : x.Ok := ⟨h.2.2.2.2.2.1.fits, h.2.2.2.2.2.2.fits⟩

theorem len7 {α : Type} {l : List α} (h : l.length = 7) : ∃ a b c d e f g, l = [a, b, c, d, e, f, g] := by
  rcases l with _ | ⟨a, _ | ⟨b, _ | ⟨c, _ | ⟨d, _ | ⟨e, _ | ⟨f, _ | ⟨g, _ | ⟨i, r⟩⟩⟩⟩⟩⟩⟩⟩ <;> simp at h
  exact ⟨_, _, _, _, _, _, _, rfl⟩

theorem Mi.of {H : Type} {enc : TypeId × Value → H} {w : World} {base : Nat} {spare : Nat → Bool} {held : Bool} {fuel : Nat} {cs : List Value} {x : DataW H × List MemPlace} (h : DataW.trod enc Try.prog w base spare held fuel 97 cs = some x) : ∃ y : Mi, cs = y.cells ∧ y.Wf := by
  obtain ⟨xs, n, _, _, hl, hxl, hf⟩ := DataW.trod_struct Try.underlying97 h
  have h5 : cs.length = 7 := hl.trans (by kernel_rfl)
  have hx5 : xs.length = 7 := hxl
  obtain ⟨v0, e0, w0⟩ := fld_int (k := 0) Try.underlying3 (by kernel_rfl) (hf 0 _ rfl) (by omega) (by rw [h5]; decide)
  obtain ⟨v1, e1, w1⟩ := fld_int (k := 1) Try.underlying3 (by kernel_rfl) (hf 1 _ rfl) (by omega) (by rw [h5]; decide)
  obtain ⟨v2, e2, w2⟩ := fld_int (k := 2) Try.underlying3 (by kernel_rfl) (hf 2 _ rfl) (by omega) (by rw [h5]; decide)
  obtain ⟨v3, e3, w3⟩ := fld_int (k := 3) Try.underlying3 (by kernel_rfl) (hf 3 _ rfl) (by omega) (by rw [h5]; decide)
  obtain ⟨v4, e4, w4⟩ := fld_int (k := 4) Try.underlying2 (by kernel_rfl) (hf 4 _ rfl) (by omega) (by rw [h5]; decide)
  obtain ⟨v5, e5, w5⟩ := fld_int (k := 5) Try.underlying95 (by kernel_rfl) (hf 5 _ rfl) (by omega) (by rw [h5]; decide)
  obtain ⟨v6, e6, w6⟩ := fld_int (k := 6) Try.underlying95 (by kernel_rfl) (hf 6 _ rfl) (by omega) (by rw [h5]; decide)
  refine ⟨⟨v0, v1, v2, v3, v4, v5, v6⟩, ?_, w0, w1, w2, w3, w4, w5, w6⟩
  obtain ⟨a, b, c, d, e, f, g, rfl⟩ := len7 h5
  simp only [List.getElem?_cons_zero, List.getElem?_cons_succ, Option.some.injEq] at e0 e1 e2 e3 e4 e5 e6
  rw [e0, e1, e2, e3, e4, e5, e6]
  rfl

/-- The instructions of a block that came in. -/
theorem MisAt.of {H : Type} {enc : TypeId × Value → H} {w : World} {base : Nat} {spare : Nat → Bool} {held : Bool} {fuel : Nat} {a : Option Addr} {len cap : Nat} {x : DataW H × List MemPlace} (h : DataW.trod enc Try.prog w base spare held fuel 107 [.slice a len cap] = some x) :
    ∃ xs : List Mi, xs.length = len ∧ len ≤ cap ∧ cap ≤ maxLen ∧ MisAt w w.heap.size a xs ∧ ∀ y ∈ xs, y.Wf := by
  obtain ⟨hl, hm, hi⟩ := trod_elems (s := 7) Try.underlying107 (by kernel_rfl) (by decide) h
  have each : ∀ i, i < len → ∃ y : Mi, y.Wf ∧ ∃ b o, a = some ⟨b, o, none⟩ ∧ b < w.heap.size ∧ y.At w b (o + i * 7) := fun i hil => by
    obtain ⟨b, o, n, cs, z, rfl, hlt, hcl, hat, ht⟩ := hi i hil
    obtain ⟨y, rfl, hy⟩ := Mi.of ht
    have g := fun j (hj : j < 7) => hat j hj
    have g0 := g 0 (by decide); have g1 := g 1 (by decide); have g2 := g 2 (by decide); have g3 := g 3 (by decide); have g4 := g 4 (by decide); have g5 := g 5 (by decide); have g6 := g 6 (by decide)
    refine ⟨y, hy, b, o, rfl, hlt, hy.ok, ?_, ?_, ?_, ?_, ?_, ?_, ?_⟩
    · exact g0
    · rw [Nat.add_assoc]; exact g1
    · rw [Nat.add_assoc]; exact g2
    · rw [Nat.add_assoc]; exact g3
    · rw [Nat.add_assoc]; exact g4
    · rw [Nat.add_assoc]; exact g5
    · rw [Nat.add_assoc]; exact g6
  haveI : Inhabited Mi := ⟨⟨0, 0, 0, 0, 0, 0, 0⟩⟩
  obtain ⟨y, hy⟩ := choose_lt each
  refine ⟨(List.range len).map y, by simp, hl, hm, fun hn => ?_, fun z hz => ?_⟩
  · have h0 : 0 < len := by
      rcases Nat.eq_zero_or_pos len with h0 | h0
      · subst h0; simp at hn
      · exact h0
    obtain ⟨_, b, o, rfl, hb, _⟩ := hy 0 h0
    refine ⟨b, o, rfl, hb, fun i z hz => ?_⟩
    have hil : i < len := by
      have := (List.getElem?_eq_some_iff.1 hz).1
      simpa using this
    obtain ⟨_, b', o', e, _, hat⟩ := hy i hil
    injection e with e
    injection e with e1 e2
    subst e1
    subst e2
    have : y i = z := by simpa [hil] using hz
    subst this
    exact hat
  · obtain ⟨i, hil, rfl⟩ := List.mem_map.1 hz
    exact (hy i (List.mem_range.1 hil)).1

/-- A block that came in. -/
theorem MBlk.of {H : Type} {enc : TypeId × Value → H} {w : World} {base : Nat} {spare : Nat → Bool} {held : Bool} {fuel : Nat} {cs : List Value} {x : DataW H × List MemPlace} (h : DataW.trod enc Try.prog w base spare held fuel 109 cs = some x) :
    ∃ (y : MBlk) (A : Option Addr) (c : Nat), cs = [.slice A y.code.length c, .int .i64 y.term.kind, .int .i64 y.term.a, .int .i64 y.term.to, .int .i64 y.term.el] ∧ y.code.length ≤ c ∧ c ≤ maxLen ∧ MisAt w w.heap.size A y.code ∧ y.Wf := by
  obtain ⟨xs, n, _, _, hl, hxl, hf⟩ := DataW.trod_struct Try.underlying109 h
  have h5 : cs.length = 5 := hl.trans (by kernel_rfl)
  have hx5 : xs.length = 2 := hxl
  obtain ⟨v0, y0, e0, t0⟩ := fld_cell (k := 0) (cs := cs) (by kernel_rfl) (hf 0 _ rfl) (by omega) (by rw [h5]; decide)
  have h1 := hf 1 _ rfl
  rw [List.getElem?_eq_getElem (by omega)] at h1
  obtain ⟨t, et, ht⟩ := Tm.of (cs := (cs.drop 1).take (Try.prog.cellsOf 101)) h1
  rcases open_slice Try.underlying107 t0 with ⟨h0, _⟩ | ⟨ad, l, c, m, n', D, Pl, hcs, _⟩
  · injection h0 with h0 _
    refine ⟨⟨[], t⟩, none, 0, ?_, Nat.le_refl _, Nat.zero_le _, MisAt.nil, fun y hy => by simp at hy, ht⟩
    obtain ⟨a, b, c, d, e, rfl⟩ := len5 h5
    simp only [List.getElem?_cons_zero, Option.some.injEq] at e0
    rw [show Try.prog.cellsOf 101 = 4 from by kernel_rfl] at et
    simp only [List.drop_succ_cons, List.drop_zero, List.take_succ_cons, List.take_zero] at et
    rw [e0, h0, et]
    rfl
  · injection hcs with h0 _
    subst h0
    obtain ⟨code, rfl, hl1, hl2, hin, hw⟩ := MisAt.of t0
    refine ⟨⟨code, t⟩, some ad, c, ?_, hl1, hl2, hin, hw, ht⟩
    obtain ⟨a, b, c', d, e, rfl⟩ := len5 h5
    simp only [List.getElem?_cons_zero, Option.some.injEq] at e0
    rw [show Try.prog.cellsOf 101 = 4 from by kernel_rfl] at et
    simp only [List.drop_succ_cons, List.drop_zero, List.take_succ_cons, List.take_zero] at et
    rw [e0, et]

/-- The blocks of a function that came in. -/
theorem MBlksAt.of {H : Type} {enc : TypeId × Value → H} {w : World} {base : Nat} {spare : Nat → Bool} {held : Bool} {fuel : Nat} {a : Option Addr} {len cap : Nat} {x : DataW H × List MemPlace} (h : DataW.trod enc Try.prog w base spare held fuel 66 [.slice a len cap] = some x) :
    ∃ xs : List MBlk, xs.length = len ∧ len ≤ cap ∧ cap ≤ maxLen ∧ MBlksAt w w.heap.size a xs ∧ ∀ y ∈ xs, y.Wf := by
  obtain ⟨hl, hm, hi⟩ := trod_elems (s := 5) Try.underlying66 (by kernel_rfl) (by decide) h
  have each : ∀ i, i < len → ∃ y : MBlk, y.Wf ∧ ∃ b o, a = some ⟨b, o, none⟩ ∧ b < w.heap.size ∧ y.At w w.heap.size b (o + i * 5) := fun i hil => by
    obtain ⟨b, o, n, cs, z, rfl, hlt, hcl, hat, ht⟩ := hi i hil
    obtain ⟨y, A, c, rfl, hl1, hl2, hin, hy⟩ := MBlk.of ht
    have g := fun j (hj : j < 5) => hat j hj
    have g0 := g 0 (by decide); have g1 := g 1 (by decide); have g2 := g 2 (by decide); have g3 := g 3 (by decide); have g4 := g 4 (by decide)
    refine ⟨y, hy, b, o, rfl, hlt, ⟨A, c, ?_, hl1, hl2, hin⟩, ?_, ?_, ?_, ?_⟩
    · exact g0
    · rw [Nat.add_assoc]; exact g1
    · rw [Nat.add_assoc]; exact g2
    · rw [Nat.add_assoc]; exact g3
    · rw [Nat.add_assoc]; exact g4
  haveI : Inhabited MBlk := ⟨⟨[], ⟨0, 0, 0, 0⟩⟩⟩
  obtain ⟨y, hy⟩ := choose_lt each
  refine ⟨(List.range len).map y, by simp, hl, hm, fun hn => ?_, fun z hz => ?_⟩
  · have h0 : 0 < len := by
      rcases Nat.eq_zero_or_pos len with h0 | h0
      · subst h0; simp at hn
      · exact h0
    obtain ⟨_, b, o, rfl, hb, _⟩ := hy 0 h0
    refine ⟨b, o, rfl, hb, fun i z hz => ?_⟩
    have hil : i < len := by
      have := (List.getElem?_eq_some_iff.1 hz).1
      simpa using this
    obtain ⟨_, b', o', e, _, hat⟩ := hy i hil
    injection e with e
    injection e with e1 e2
    subst e1
    subst e2
    have : y i = z := by simpa [hil] using hz
    subst this
    exact hat
  · obtain ⟨i, hil, rfl⟩ := List.mem_map.1 hz
    exact (hy i (List.mem_range.1 hil)).1

/-- An allocated function as a value. -/
def IsMFn (w : World) (cs : Array Value) : Prop :=
  ∃ (args regs slots : Int) (A : Option Addr) (bs : List MBlk) (c : Nat), cs = #[.int .i64 args, .int .i64 regs, .int .i64 slots, .slice A bs.length c] ∧ I64 args ∧ I64 regs ∧ I64 slots ∧ bs.length ≤ c ∧ c ≤ maxLen ∧ MBlksAt w w.heap.size A bs ∧ ∀ y ∈ bs, y.Wf

def IsMi (w : World) (cs : Array Value) : Prop := ∃ x : Mi, cs = #[.int .i64 x.op, .int .i64 x.d, .int .i64 x.a, .int .i64 x.b, .int .i64 x.imm, .int .i64 x.dst, .int .i64 x.src] ∧ x.Wf

theorem IsMFn.of {H : Type} {enc : TypeId × Value → H} {w : World} {base : Nat} {spare : Nat → Bool} {held : Bool} {fuel : Nat} {cs : Array Value} {x : DataW H × List MemPlace} (h : DataW.trod enc Try.prog w base spare held fuel 68 cs.toList = some x) : IsMFn w cs := by
  obtain ⟨cs⟩ := cs
  obtain ⟨xs, n, _, _, hl, hxl, hf⟩ := DataW.trod_struct Try.underlying68 h
  have h5 : cs.length = 4 := hl.trans (by kernel_rfl)
  have hx5 : xs.length = 4 := hxl
  obtain ⟨v0, e0, w0⟩ := fld_int (k := 0) (cs := cs) Try.underlying3 (by kernel_rfl) (hf 0 _ rfl) (by omega) (by rw [h5]; decide)
  obtain ⟨v1, e1, w1⟩ := fld_int (k := 1) (cs := cs) Try.underlying3 (by kernel_rfl) (hf 1 _ rfl) (by omega) (by rw [h5]; decide)
  obtain ⟨v2, e2, w2⟩ := fld_int (k := 2) (cs := cs) Try.underlying3 (by kernel_rfl) (hf 2 _ rfl) (by omega) (by rw [h5]; decide)
  obtain ⟨v3, y3, e3, t3⟩ := fld_cell (k := 3) (cs := cs) (by kernel_rfl) (hf 3 _ rfl) (by omega) (by rw [h5]; decide)
  obtain ⟨a, b, c, d, rfl⟩ := len4 h5
  simp only [List.getElem?_cons_zero, List.getElem?_cons_succ, Option.some.injEq] at e0 e1 e2 e3
  subst e0
  subst e1
  subst e2
  subst e3
  rcases open_slice Try.underlying66 t3 with ⟨h0, _⟩ | ⟨ad, l, c, m, n', D, Pl, hcs, _⟩
  · injection h0 with h0 _
    subst h0
    exact ⟨v0, v1, v2, none, [], 0, rfl, w0, w1, w2, Nat.le_refl _, Nat.zero_le _, MBlksAt.nil, fun y hy => by simp at hy⟩
  · injection hcs with h0 _
    subst h0
    obtain ⟨bs, rfl, hl1, hl2, hin, hw⟩ := MBlksAt.of t3
    exact ⟨v0, v1, v2, some ad, bs, c, rfl, w0, w1, w2, hl1, hl2, hin, hw⟩

theorem IsMi.of {H : Type} {enc : TypeId × Value → H} {w : World} {base : Nat} {spare : Nat → Bool} {held : Bool} {fuel : Nat} {cs : Array Value} {x : DataW H × List MemPlace} (h : DataW.trod enc Try.prog w base spare held fuel 97 cs.toList = some x) : IsMi w cs := by
  obtain ⟨y, hy, hw⟩ := Mi.of h
  obtain ⟨cs⟩ := cs
  exact ⟨y, congrArg List.toArray hy, hw⟩

end Go.Proofs.Ytkapmfopfddmbaa

/-
  Functions and instructions as they come in.
-/
namespace Go.Proofs.Ytkapmfopfddmbaa
open Go.RowKit Go.ChangeShapes Go.WideShapes Go.Deep
set_option linter.unusedVariables false
set_option maxRecDepth 100000

def In.Wf (x : In) : Prop := I64 x.op ∧ I64 x.d ∧ I64 x.a ∧ I64 x.b ∧ I64 x.imm

def Blk.Wf (x : Blk) : Prop := (∀ y ∈ x.code, y.Wf) ∧ x.term.Wf

section
variable {H : Type} {enc : TypeId × Value → H} {w : World} {base : Nat} {spare : Nat → Bool} {held : Bool} {fuel : Nat}

theorem In.of {cs : List Value} {x : DataW H × List MemPlace} (h : DataW.trod enc Try.prog w base spare held fuel 92 cs = some x) : ∃ y : In, cs = y.cells ∧ y.Wf := by
  obtain ⟨xs, n, _, _, hl, hxl, hf⟩ := DataW.trod_struct Try.underlying92 h
  have h5 : cs.length = 5 := hl.trans (by kernel_rfl)
  have hx5 : xs.length = 5 := hxl
  obtain ⟨v0, e0, w0⟩ := fld_int (k := 0) Try.underlying3 (by kernel_rfl) (hf 0 _ rfl) (by omega) (by rw [h5]; decide)
  obtain ⟨v1, e1, w1⟩ := fld_int (k := 1) Try.underlying3 (by kernel_rfl) (hf 1 _ rfl) (by omega) (by rw [h5]; decide)
  obtain ⟨v2, e2, w2⟩ := fld_int (k := 2) Try.underlying3 (by kernel_rfl) (hf 2 _ rfl) (by omega) (by rw [h5]; decide)
  obtain ⟨v3, e3, w3⟩ := fld_int (k := 3) Try.underlying3 (by kernel_rfl) (hf 3 _ rfl) (by omega) (by rw [h5]; decide)
  obtain ⟨v4, e4, w4⟩ := fld_int (k := 4) Try.underlying2 (by kernel_rfl) (hf 4 _ rfl) (by omega) (by rw [h5]; decide)
  refine ⟨⟨v0, v1, v2, v3, v4⟩, ?_, w0, w1, w2, w3, w4⟩
  obtain ⟨a, b, c, d, e, rfl⟩ := len5 h5
  simp only [List.getElem?_cons_zero, List.getElem?_cons_succ, Option.some.injEq] at e0 e1 e2 e3 e4
  rw [e0, e1, e2, e3, e4]
  rfl

/-- The instructions of a block that came in. -/
theorem InsAt.of {a : Option Addr} {len cap : Nat} {x : DataW H × List MemPlace} (h : DataW.trod enc Try.prog w base spare held fuel 104 [.slice a len cap] = some x) :
    ∃ xs : List In, xs.length = len ∧ len ≤ cap ∧ cap ≤ maxLen ∧ InsAt w w.heap.size a xs ∧ ∀ y ∈ xs, y.Wf := by
  obtain ⟨hl, hm, hi⟩ := trod_elems (s := 5) Try.underlying104 (by kernel_rfl) (by decide) h
  have each : ∀ i, i < len → ∃ y : In, y.Wf ∧ ∃ b o, a = some ⟨b, o, none⟩ ∧ b < w.heap.size ∧ y.At w b (o + i * 5) := fun i hil => by
    obtain ⟨b, o, n, cs, z, rfl, hlt, hcl, hat, ht⟩ := hi i hil
    obtain ⟨y, rfl, hy⟩ := In.of ht
    have g := fun j (hj : j < 5) => hat j hj
    have g0 := g 0 (by decide); have g1 := g 1 (by decide); have g2 := g 2 (by decide); have g3 := g 3 (by decide); have g4 := g 4 (by decide)
    refine ⟨y, hy, b, o, rfl, hlt, ?_, ?_, ?_, ?_, ?_⟩
    · exact g0
    · rw [Nat.add_assoc]; exact g1
    · rw [Nat.add_assoc]; exact g2
    · rw [Nat.add_assoc]; exact g3
    · rw [Nat.add_assoc]; exact g4
  haveI : Inhabited In := ⟨⟨0, 0, 0, 0, 0⟩⟩
  obtain ⟨y, hy⟩ := choose_lt each
  refine ⟨(List.range len).map y, by simp, hl, hm, fun hn => ?_, fun z hz => ?_⟩
  · have h0 : 0 < len := by
      rcases Nat.eq_zero_or_pos len with h0 | h0
      · subst h0; simp at hn
      · exact h0
    obtain ⟨_, b, o, rfl, hb, _⟩ := hy 0 h0
    refine ⟨b, o, rfl, hb, fun i z hz => ?_⟩
    have hil : i < len := by
      have := (List.getElem?_eq_some_iff.1 hz).1
      simpa using this
    obtain ⟨_, b', o', e, _, hat⟩ := hy i hil
    injection e with e
    injection e with e1 e2
    subst e1
    subst e2
    have : y i = z := by simpa [hil] using hz
    subst this
    exact hat
  · obtain ⟨i, hil, rfl⟩ := List.mem_map.1 hz
    exact (hy i (List.mem_range.1 hil)).1

/-- A block that came in. -/
theorem Blk.of {cs : List Value} {x : DataW H × List MemPlace} (h : DataW.trod enc Try.prog w base spare held fuel 106 cs = some x) :
    ∃ (y : Blk) (A : Option Addr) (c : Nat), cs = [.slice A y.code.length c, .int .i64 y.term.kind, .int .i64 y.term.a, .int .i64 y.term.to, .int .i64 y.term.el] ∧ y.code.length ≤ c ∧ c ≤ maxLen ∧ InsAt w w.heap.size A y.code ∧ y.Wf := by
  obtain ⟨xs, n, _, _, hl, hxl, hf⟩ := DataW.trod_struct Try.underlying106 h
  have h5 : cs.length = 5 := hl.trans (by kernel_rfl)
  have hx5 : xs.length = 2 := hxl
  obtain ⟨v0, y0, e0, t0⟩ := fld_cell (k := 0) (cs := cs) (by kernel_rfl) (hf 0 _ rfl) (by omega) (by rw [h5]; decide)
  have h1 := hf 1 _ rfl
  rw [List.getElem?_eq_getElem (by omega)] at h1
  obtain ⟨t, et, ht⟩ := Tm.of (cs := (cs.drop 1).take (Try.prog.cellsOf 101)) h1
  rcases open_slice Try.underlying104 t0 with ⟨h0, _⟩ | ⟨ad, l, c, m, n', D, Pl, hcs, _⟩
  · injection h0 with h0 _
    refine ⟨⟨[], t⟩, none, 0, ?_, Nat.le_refl _, Nat.zero_le _, InsAt.nil, fun y hy => by simp at hy, ht⟩
    obtain ⟨a, b, c, d, e, rfl⟩ := len5 h5
    simp only [List.getElem?_cons_zero, Option.some.injEq] at e0
    rw [show Try.prog.cellsOf 101 = 4 from by kernel_rfl] at et
    simp only [List.drop_succ_cons, List.drop_zero, List.take_succ_cons, List.take_zero] at et
    rw [e0, h0, et]
    rfl
  · injection hcs with h0 _
    subst h0
    obtain ⟨code, rfl, hl1, hl2, hin, hw⟩ := InsAt.of t0
    refine ⟨⟨code, t⟩, some ad, c, ?_, hl1, hl2, hin, hw, ht⟩
    obtain ⟨a, b, c', d, e, rfl⟩ := len5 h5
    simp only [List.getElem?_cons_zero, Option.some.injEq] at e0
    rw [show Try.prog.cellsOf 101 = 4 from by kernel_rfl] at et
    simp only [List.drop_succ_cons, List.drop_zero, List.take_succ_cons, List.take_zero] at et
    rw [e0, et]

/-- The blocks of a function that came in. -/
theorem BlksAt.of {a : Option Addr} {len cap : Nat} {x : DataW H × List MemPlace} (h : DataW.trod enc Try.prog w base spare held fuel 61 [.slice a len cap] = some x) :
    ∃ xs : List Blk, xs.length = len ∧ len ≤ cap ∧ cap ≤ maxLen ∧ BlksAt w w.heap.size a xs ∧ ∀ y ∈ xs, y.Wf := by
  obtain ⟨hl, hm, hi⟩ := trod_elems (s := 5) Try.underlying61 (by kernel_rfl) (by decide) h
  have each : ∀ i, i < len → ∃ y : Blk, y.Wf ∧ ∃ b o, a = some ⟨b, o, none⟩ ∧ b < w.heap.size ∧ y.At w w.heap.size b (o + i * 5) := fun i hil => by
    obtain ⟨b, o, n, cs, z, rfl, hlt, hcl, hat, ht⟩ := hi i hil
    obtain ⟨y, A, c, rfl, hl1, hl2, hin, hy⟩ := Blk.of ht
    have g := fun j (hj : j < 5) => hat j hj
    have g0 := g 0 (by decide); have g1 := g 1 (by decide); have g2 := g 2 (by decide); have g3 := g 3 (by decide); have g4 := g 4 (by decide)
    refine ⟨y, hy, b, o, rfl, hlt, ⟨A, c, ?_, hl1, hl2, hin⟩, ?_, ?_, ?_, ?_⟩
    · exact g0
    · rw [Nat.add_assoc]; exact g1
    · rw [Nat.add_assoc]; exact g2
    · rw [Nat.add_assoc]; exact g3
    · rw [Nat.add_assoc]; exact g4
  haveI : Inhabited Blk := ⟨⟨[], ⟨0, 0, 0, 0⟩⟩⟩
  obtain ⟨y, hy⟩ := choose_lt each
  refine ⟨(List.range len).map y, by simp, hl, hm, fun hn => ?_, fun z hz => ?_⟩
  · have h0 : 0 < len := by
      rcases Nat.eq_zero_or_pos len with h0 | h0
      · subst h0; simp at hn
      · exact h0
    obtain ⟨_, b, o, rfl, hb, _⟩ := hy 0 h0
    refine ⟨b, o, rfl, hb, fun i z hz => ?_⟩
    have hil : i < len := by
      have := (List.getElem?_eq_some_iff.1 hz).1
      simpa using this
    obtain ⟨_, b', o', e, _, hat⟩ := hy i hil
    injection e with e
    injection e with e1 e2
    subst e1
    subst e2
    have : y i = z := by simpa [hil] using hz
    subst this
    exact hat
  · obtain ⟨i, hil, rfl⟩ := List.mem_map.1 hz
    exact (hy i (List.mem_range.1 hil)).1

/-- A source function as a value. -/
def IsFn (w : World) (cs : Array Value) : Prop :=
  ∃ (args regs : Int) (A : Option Addr) (bs : List Blk) (c : Nat), cs = #[.int .i64 args, .int .i64 regs, .slice A bs.length c] ∧ I64 args ∧ I64 regs ∧ bs.length ≤ c ∧ c ≤ maxLen ∧ BlksAt w w.heap.size A bs ∧ ∀ y ∈ bs, y.Wf

def IsIn (w : World) (cs : Array Value) : Prop := ∃ x : In, cs = #[.int .i64 x.op, .int .i64 x.d, .int .i64 x.a, .int .i64 x.b, .int .i64 x.imm] ∧ x.Wf

def IsTm (w : World) (cs : Array Value) : Prop := ∃ t : Tm, cs = #[.int .i64 t.kind, .int .i64 t.a, .int .i64 t.to, .int .i64 t.el] ∧ t.Wf

theorem IsFn.of {cs : Array Value} {x : DataW H × List MemPlace} (h : DataW.trod enc Try.prog w base spare held fuel 63 cs.toList = some x) : IsFn w cs := by
  obtain ⟨cs⟩ := cs
  obtain ⟨xs, n, _, _, hl, hxl, hf⟩ := DataW.trod_struct Try.underlying63 h
  have h5 : cs.length = 3 := hl.trans (by kernel_rfl)
  have hx5 : xs.length = 3 := hxl
  obtain ⟨v0, e0, w0⟩ := fld_int (k := 0) (cs := cs) Try.underlying3 (by kernel_rfl) (hf 0 _ rfl) (by omega) (by rw [h5]; decide)
  obtain ⟨v1, e1, w1⟩ := fld_int (k := 1) (cs := cs) Try.underlying3 (by kernel_rfl) (hf 1 _ rfl) (by omega) (by rw [h5]; decide)
  obtain ⟨v2, y2, e2, t2⟩ := fld_cell (k := 2) (cs := cs) (by kernel_rfl) (hf 2 _ rfl) (by omega) (by rw [h5]; decide)
  obtain ⟨a, b, c, rfl⟩ := len3 h5
  simp only [List.getElem?_cons_zero, List.getElem?_cons_succ, Option.some.injEq] at e0 e1 e2
  subst e0
  subst e1
  subst e2
  rcases open_slice Try.underlying61 t2 with ⟨h0, _⟩ | ⟨ad, l, c, m, n', D, Pl, hcs, _⟩
  · injection h0 with h0 _
    subst h0
    exact ⟨v0, v1, none, [], 0, rfl, w0, w1, Nat.le_refl _, Nat.zero_le _, BlksAt.nil, fun y hy => by simp at hy⟩
  · injection hcs with h0 _
    subst h0
    obtain ⟨bs, rfl, hl1, hl2, hin, hw⟩ := BlksAt.of t2
    exact ⟨v0, v1, some ad, bs, c, rfl, w0, w1, hl1, hl2, hin, hw⟩

theorem IsIn.of {cs : Array Value} {x : DataW H × List MemPlace} (h : DataW.trod enc Try.prog w base spare held fuel 92 cs.toList = some x) : IsIn w cs := by
  obtain ⟨y, hy, hw⟩ := In.of h
  obtain ⟨cs⟩ := cs
  exact ⟨y, congrArg List.toArray hy, hw⟩

theorem IsTm.of {cs : Array Value} {x : DataW H × List MemPlace} (h : DataW.trod enc Try.prog w base spare held fuel 101 cs.toList = some x) : IsTm w cs := by
  obtain ⟨y, hy, hw⟩ := Tm.of h
  obtain ⟨cs⟩ := cs
  exact ⟨y, congrArg List.toArray hy, hw⟩

end

end Go.Proofs.Ytkapmfopfddmbaa
