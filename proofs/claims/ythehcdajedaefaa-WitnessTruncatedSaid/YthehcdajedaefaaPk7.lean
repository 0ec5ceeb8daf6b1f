import Derived.Test.YthehcdajedaefaaPk1
import Derived.Test.YthehcdajedaefaaPk3
import Derived.Laws.EntriesVeiled
import Derived.Deep.RegionWith
import Derived.Deep.RegionHeld3
import Derived.Deep.DeepMust
import Derived.LoopTactic
import Derived.Below
import Derived.Deep.LoopGhost
import Derived.Deep.Slices
import Derived.Deep.Fields

/-
  The program's functions on one instruction: isMove, extend, moveError, otherError, the finder and its two functions, Instr.
-/
namespace Go.Proofs.Ythehcdajedaefaa
open Go.RowKit
set_option linter.unusedVariables false

/-- The first field of a move that is not 0. -/
theorem zf_ways (x : Mi) : (x.zf = true ∧ ((x.d != 0) = true ∨ ((x.d != 0) = false ∧ ((x.a != 0) = true ∨ ((x.a != 0) = false ∧ ((x.b != 0) = true ∨ ((x.b != 0) = false ∧ (x.imm != 0) = true))))))) ∨
    (x.zf = false ∧ (x.d != 0) = false ∧ (x.a != 0) = false ∧ (x.b != 0) = false ∧ (x.imm != 0) = false) := by
  unfold Mi.zf
  cases (x.d != 0) <;> cases (x.a != 0) <;> cases (x.b != 0) <;> cases (x.imm != 0) <;> decide

end Go.Proofs.Ythehcdajedaefaa

/-
  The finder: newFinder, find, and the program's Instr.
-/
namespace Go.Proofs.Ythehcdajedaefaa
open Go.RowKit
set_option linter.unusedVariables false

/-- The blocks p and q hold these numbers. -/
structure Fin2 (w : World) (p q : Nat) (regs slots : Int) : Prop where
  p : w.cell? ⟨p, 0, none⟩ = some (.int .i64 regs)
  q : w.cell? ⟨q, 0, none⟩ = some (.int .i64 slots)

theorem Fin2.lt {w : World} {p q : Nat} {regs slots : Int} (h : Fin2 w p q regs slots) : p < w.heap.size ∧ q < w.heap.size :=
  ⟨World.block_lt_of_cell? w _ h.p, World.block_lt_of_cell? w _ h.q⟩

theorem Fin2.below {w w' : World} {p q B : Nat} {regs slots : Int} (h : Fin2 w p q regs slots) (hb : Below B w w') (hp : p < B) (hq : q < B) : Fin2 w' p q regs slots :=
  ⟨(hb.cell (p := ⟨p, 0, none⟩) hp).trans h.p, (hb.cell (p := ⟨q, 0, none⟩) hq).trans h.q⟩

theorem Fin2.next {w w' : World} {p q : Nat} {regs slots : Int} (h : Fin2 w p q regs slots) (hb : Below w.heap.size w w') : Fin2 w' p q regs slots := h.below hb h.lt.1 h.lt.2

section
variable {w : World} {x : Mi} {W W' : World}

theorem blw_drew (w : World) (n : Nat) : Below w.heap.size w (w.drewN n) := blw_drewN (Below.refl _ _) n

theorem Fin2.drewN {p q : Nat} {regs slots : Int} (h : Fin2 W p q regs slots) (n : Nat) : Fin2 (W.drewN n) p q regs slots := h.next (blw_drew W n)

theorem Fin2.drew {p q : Nat} {regs slots : Int} (h : Fin2 W p q regs slots) : Fin2 W.drew p q regs slots := h.drewN 1

end

end Go.Proofs.Ythehcdajedaefaa

/-
  Code of both; checkSizes; checkCode.
-/
namespace Go.Proofs.Ythehcdajedaefaa
open Go.RowKit
set_option linter.unusedVariables false

theorem msizes_ways (args regs slots : Int) (bs : List MBlk) (hm : bs.length ≤ 1000) (hn : mcodeN bs ≤ 1000000) :
    (args < 0 ∧ eMSz args regs slots bs = 10) ∨ (0 ≤ args ∧ slots < args ∧ eMSz args regs slots bs = 10) ∨ (0 ≤ args ∧ args ≤ slots ∧ ((regs < 0 ∧ eMSz args regs slots bs = 9) ∨ (0 ≤ regs ∧ ((1048576 < slots ∧ eMSz args regs slots bs = 6) ∨
      (slots ≤ 1048576 ∧ ((1048576 < regs ∧ eMSz args regs slots bs = 6) ∨ (regs ≤ 1048576 ∧ ((bs.length = 0 ∧ eMSz args regs slots bs = 14) ∨ (0 < bs.length ∧ eMSz args regs slots bs = 0))))))))) := by
  unfold eMSz
  by_cases h1 : args < 0
  · exact .inl ⟨h1, by rw [if_pos (.inl h1)]⟩
  · by_cases h2 : slots < args
    · exact .inr (.inl ⟨by omega, h2, by rw [if_pos (.inr h2)]⟩)
    · refine .inr (.inr ⟨by omega, by omega, ?_⟩)
      rw [if_neg (by omega)]
      by_cases h0 : regs < 0
      · exact .inl ⟨h0, by rw [if_pos h0]⟩
      · refine .inr ⟨by omega, ?_⟩
        rw [if_neg h0]
        by_cases h3 : 1048576 < slots
        · exact .inl ⟨h3, by rw [if_pos (.inl h3)]⟩
        · refine .inr ⟨by omega, ?_⟩
          by_cases h5 : 1048576 < regs
          · exact .inl ⟨h5, by rw [if_pos (.inr h5)]⟩
          · refine .inr ⟨by omega, ?_⟩
            rw [if_neg (by omega)]
            by_cases h4 : bs.length = 0
            · exact .inl ⟨h4, by rw [if_pos h4]⟩
            · exact .inr ⟨by omega, by rw [if_neg h4, if_neg (by omega)]⟩

end Go.Proofs.Ythehcdajedaefaa

/-
  The reference's Few of layer 8.
-/
namespace Go.Proofs.Ythehcdajedaefaa
open Go.RowKit
set_option linter.unusedVariables false

/-- What Few says: few blocks, registers and instructions. -/
def FewM (regs slots : Int) (bs : List MBlk) : Prop := bs.length ≤ 40 ∧ regs ≤ 60 ∧ slots ≤ 60 ∧ mcodeN bs ≤ 900

def FewM.P (regs slots : Int) (bs : List MBlk) (w : World) (e : Ending) (w' : World) : Prop := (∃ b, e = .returned (.bool b) ∧ (b = true → FewM regs slots bs)) ∧ Below w.heap.size w w'

end Go.Proofs.Ythehcdajedaefaa

/-
  Moves, of the program and of the reference.
-/
namespace Go.Proofs.Ythehcdajedaefaa
open Go.RowKit
set_option linter.unusedVariables false

end Go.Proofs.Ythehcdajedaefaa

/-
  Code of both; checkSizes.
-/
namespace Go.Proofs.Ythehcdajedaefaa
open Go.RowKit
set_option linter.unusedVariables false

theorem sizes_ways (args regs : Int) (bs : List Blk) (hm : bs.length ≤ 1000) (hn : codeN bs ≤ 1000000) :
    (args < 0 ∧ eSz args regs bs = 9) ∨ (0 ≤ args ∧ regs < args ∧ eSz args regs bs = 9) ∨ (0 ≤ args ∧ args ≤ regs ∧ ((1048576 < regs ∧ eSz args regs bs = 6) ∨ (regs ≤ 1048576 ∧ ((bs.length = 0 ∧ eSz args regs bs = 14) ∨ (0 < bs.length ∧ eSz args regs bs = 0))))) := by
  unfold eSz
  by_cases h1 : args < 0
  · exact .inl ⟨h1, by rw [if_pos (.inl h1)]⟩
  · by_cases h2 : regs < args
    · exact .inr (.inl ⟨by omega, h2, by rw [if_pos (.inr h2)]⟩)
    · refine .inr (.inr ⟨by omega, by omega, ?_⟩)
      rw [if_neg (by omega)]
      by_cases h3 : 1048576 < regs
      · exact .inl ⟨h3, by rw [if_pos h3]⟩
      · refine .inr ⟨by omega, ?_⟩
        rw [if_neg h3]
        by_cases h4 : bs.length = 0
        · exact .inl ⟨h4, by rw [if_pos h4]⟩
        · exact .inr ⟨by omega, by rw [if_neg h4, if_neg (by omega)]⟩

end Go.Proofs.Ythehcdajedaefaa

/-
  The reference's Few.
-/
namespace Go.Proofs.Ythehcdajedaefaa
open Go.RowKit
set_option linter.unusedVariables false

/-- What Few says: few blocks, registers and instructions. -/
def FewF (regs : Int) (bs : List Blk) : Prop := bs.length ≤ 40 ∧ regs ≤ 60 ∧ codeN bs ≤ 300

def FewF.P (regs : Int) (bs : List Blk) (w : World) (e : Ending) (w' : World) : Prop := (∃ b, e = .returned (.bool b) ∧ (b = true → FewF regs bs)) ∧ Below w.heap.size w w'

end Go.Proofs.Ythehcdajedaefaa

/-
  Reading structs and slices that came in; terminators.
-/
namespace Go.Proofs.Ythehcdajedaefaa
open Go.RowKit Go.ChangeShapes Go.WideShapes Go.Deep
set_option linter.unusedVariables false

def I64 (x : Int) : Prop := (Lit.int .i64 x).wf = true

def Tm.Wf (t : Tm) : Prop := I64 t.kind ∧ I64 t.a ∧ I64 t.to ∧ I64 t.el


section
variable {H : Type} {enc : TypeId × Value → H} {P : Program} {w : World} {base : Nat} {spare : Nat → Bool} {held : Bool}

/-- A one-cell field of an integer's type. -/
theorem fld_int {ft : TypeId} {n k i : Nat} {cs : List Value} {xs : List (DataW H × List MemPlace)} (hu : P.underlying ft = some (.int .i64)) (hc : P.cellsOf ft = 1)
    (hx : DataW.trod enc P w base spare held n ft ((cs.drop k).take (P.cellsOf ft)) = xs[i]?) (hi : i < xs.length) (hk : k < cs.length) : ∃ v : Int, cs[k]? = some (.int .i64 v) ∧ I64 v := by
  rw [hc, List.drop_eq_getElem_cons hk, List.take_succ_cons, List.take_zero, List.getElem?_eq_getElem hi] at hx
  obtain ⟨v, e, _, hw⟩ := DataW.trod_int hu hx
  injection e with e _
  exact ⟨v, by rw [List.getElem?_eq_getElem hk, e], hw⟩

theorem fld_cell {ft : TypeId} {n k i : Nat} {cs : List Value} {xs : List (DataW H × List MemPlace)} (hc : P.cellsOf ft = 1)
    (hx : DataW.trod enc P w base spare held n ft ((cs.drop k).take (P.cellsOf ft)) = xs[i]?) (hi : i < xs.length) (hk : k < cs.length) : ∃ v y, cs[k]? = some v ∧ DataW.trod enc P w base spare held n ft [v] = some y := by
  rw [hc, List.drop_eq_getElem_cons hk, List.take_succ_cons, List.take_zero, List.getElem?_eq_getElem hi] at hx
  exact ⟨cs[k], _, List.getElem?_eq_getElem hk, hx⟩

/-- A slice that came in: nil, or its elements' cells, each with its reading. -/
theorem trod_elems {t e : TypeId} {s : Nat} {fuel : Nat} {a : Option Addr} {len cap : Nat} {x : DataW H × List MemPlace} (ht : P.underlying t = some (.slice e)) (hC : P.cellsOf e = s) (h0 : 0 < s)
    (h : DataW.trod enc P w base spare held fuel t [.slice a len cap] = some x) :
    len ≤ cap ∧ cap ≤ maxLen ∧ ∀ i, i < len → ∃ b o n cs y, a = some ⟨b, o, none⟩ ∧ b < w.heap.size ∧ cs.length = s ∧ (∀ j, j < s → w.cell? ⟨b, o + (i * s + j), none⟩ = cs[j]?) ∧ DataW.trod enc P w base spare held n e cs = some y := by
  rcases open_slice ht h with ⟨h0, _⟩ | ⟨ad, l, c, m, n, D, Pl, hcs, _, hl, hm, hmm, _, hi⟩
  · injection h0 with h0 _
    injection h0 with h1 h2 h3
    subst h2
    subst h3
    exact ⟨Nat.le_refl _, Nat.zero_le _, fun i hi => by omega⟩
  · injection hcs with h0 _
    injection h0 with h1 h2 h3
    subst h1
    subst h2
    subst h3
    have hlm : len ≤ m := by rw [hmm]; split <;> omega
    refine ⟨hl, hm, fun i hil => ?_⟩
    obtain ⟨c0, hc0, _⟩ := hi 0 (by omega)
    rw [hC] at hc0
    obtain ⟨_, hcl0, hat0⟩ := World.cells?_some hc0
    have hz := hat0 0 (by omega)
    rw [Go.Deep.add_add, Nat.zero_mul, List.getElem?_eq_getElem (by omega)] at hz
    obtain ⟨b, o, sp⟩ := ad
    have hs : sp = none := by simpa [Addr.add] using World.cell?_spot hz
    subst hs
    obtain ⟨cs', hc, htr⟩ := hi i (by omega)
    rw [hC] at hc
    obtain ⟨_, hcl, hat⟩ := World.cells?_some hc
    refine ⟨b, o, n, cs', _, rfl, World.block_lt_of_cell? w _ (by simpa [Addr.add] using hz), hcl, fun j hj => ?_, htr⟩
    have := hat j hj
    rwa [Go.Deep.add_add, Addr.add_lit] at this

end

theorem len3 {α : Type} {l : List α} (h : l.length = 3) : ∃ a b c, l = [a, b, c] := by
  rcases l with _ | ⟨a, _ | ⟨b, _ | ⟨c, _ | ⟨d, r⟩⟩⟩⟩ <;> simp at h
  exact ⟨_, _, _, rfl⟩

theorem len4 {α : Type} {l : List α} (h : l.length = 4) : ∃ a b c d, l = [a, b, c, d] := by
  rcases l with _ | ⟨a, _ | ⟨b, _ | ⟨c, _ | ⟨d, _ | ⟨e, r⟩⟩⟩⟩⟩ <;> simp at h
  exact ⟨_, _, _, _, rfl⟩

theorem len5 {α : Type} {l : List α} (h : l.length = 5) : ∃ a b c d e, l = [a, b, c, d, e] := by
  rcases l with _ | ⟨a, _ | ⟨b, _ | ⟨c, _ | ⟨d, _ | ⟨e, _ | ⟨f, r⟩⟩⟩⟩⟩⟩ <;> simp at h
  exact ⟨_, _, _, _, _, rfl⟩

end Go.Proofs.Ythehcdajedaefaa

/-
  Allocated functions and machine instructions as they come in.
-/
namespace Go.Proofs.Ythehcdajedaefaa
open Go.RowKit Go.ChangeShapes Go.WideShapes Go.Deep
set_option linter.unusedVariables false
set_option maxRecDepth 100000

def Mi.Wf (x : Mi) : Prop := I64 x.op ∧ I64 x.d ∧ I64 x.a ∧ I64 x.b ∧ I64 x.imm ∧ I64 x.dst ∧ I64 x.src

def MBlk.Wf (x : MBlk) : Prop := (∀ y ∈ x.code, y.Wf) ∧ x.term.Wf

theorem I64.fits {x : Int} (h : I64 x) : Fits x := i64_of_wf h

theorem Mi.Wf.ok {x : Mi} (h : x.Wf) : x.Ok := ⟨h.2.2.2.2.2.1.fits, h.2.2.2.2.2.2.fits⟩

theorem len7 {α : Type} {l : List α} (h : l.length = 7) : ∃ a b c d e f g, l = [a, b, c, d, e, f, g] := by
  rcases l with _ | ⟨a, _ | ⟨b, _ | ⟨c, _ | ⟨d, _ | ⟨e, _ | ⟨f, _ | ⟨g, _ | ⟨i, r⟩⟩⟩⟩⟩⟩⟩⟩ <;> simp at h
  exact ⟨_, _, _, _, _, _, _, rfl⟩

/-- An allocated function as a value. -/
def IsMFn (w : World) (cs : Array Value) : Prop :=
  ∃ (args regs slots : Int) (A : Option Addr) (bs : List MBlk) (c : Nat), cs = #[.int .i64 args, .int .i64 regs, .int .i64 slots, .slice A bs.length c] ∧ I64 args ∧ I64 regs ∧ I64 slots ∧ bs.length ≤ c ∧ c ≤ maxLen ∧ MBlksAt w w.heap.size A bs ∧ ∀ y ∈ bs, y.Wf

def IsMi (w : World) (cs : Array Value) : Prop := ∃ x : Mi, cs = #[.int .i64 x.op, .int .i64 x.d, .int .i64 x.a, .int .i64 x.b, .int .i64 x.imm, .int .i64 x.dst, .int .i64 x.src] ∧ x.Wf

end Go.Proofs.Ythehcdajedaefaa

/-
  Functions and instructions as they come in.
-/
namespace Go.Proofs.Ythehcdajedaefaa
open Go.RowKit Go.ChangeShapes Go.WideShapes Go.Deep
set_option linter.unusedVariables false
set_option maxRecDepth 100000

def In.Wf (x : In) : Prop := I64 x.op ∧ I64 x.d ∧ I64 x.a ∧ I64 x.b ∧ I64 x.imm

def Blk.Wf (x : Blk) : Prop := (∀ y ∈ x.code, y.Wf) ∧ x.term.Wf

section
variable {H : Type} {enc : TypeId × Value → H} {w : World} {base : Nat} {spare : Nat → Bool} {held : Bool} {fuel : Nat}

/-- A source function as a value. -/
def IsFn (w : World) (cs : Array Value) : Prop :=
  ∃ (args regs : Int) (A : Option Addr) (bs : List Blk) (c : Nat), cs = #[.int .i64 args, .int .i64 regs, .slice A bs.length c] ∧ I64 args ∧ I64 regs ∧ bs.length ≤ c ∧ c ≤ maxLen ∧ BlksAt w w.heap.size A bs ∧ ∀ y ∈ bs, y.Wf

def IsIn (w : World) (cs : Array Value) : Prop := ∃ x : In, cs = #[.int .i64 x.op, .int .i64 x.d, .int .i64 x.a, .int .i64 x.b, .int .i64 x.imm] ∧ x.Wf

def IsTm (w : World) (cs : Array Value) : Prop := ∃ t : Tm, cs = #[.int .i64 t.kind, .int .i64 t.a, .int .i64 t.to, .int .i64 t.el] ∧ t.Wf

end

end Go.Proofs.Ythehcdajedaefaa
