/-
  Functions and instructions as they come in.
-/
import Derived.Test.YtacmgfndmolnfaaRd
namespace Go.Proofs.Ytacmgfndmolnfaa
open Go.RowKit Go.ChangeShapes Go.WideShapes Go.Deep
set_option linter.unusedVariables false
set_option maxRecDepth 100000

def In.Wf (x : In) : Prop := I64 x.op ∧ I64 x.d ∧ I64 x.a ∧ I64 x.b ∧ I64 x.imm

def Blk.Wf (x : Blk) : Prop := (∀ y ∈ x.code, y.Wf) ∧ x.term.Wf

section
variable {H : Type} {enc : TypeId × Value → H} {w : World} {base : Nat} {spare : Nat → Bool} {held : Bool} {fuel : Nat}

theorem In.of {cs : List Value} {x : DataW H × List MemPlace} (h : DataW.trod enc Try.prog w base spare held fuel 30 cs = some x) : ∃ y : In, cs = y.cells ∧ y.Wf := by
  obtain ⟨xs, n, _, _, hl, hxl, hf⟩ := DataW.trod_struct Try.underlying30 h
  have h5 : cs.length = 5 := hl.trans (by kernel_rfl)
  have hx5 : xs.length = 5 := hxl
  obtain ⟨v0, e0, w0⟩ := fld_int (k := 0) Try.underlying3 (by kernel_rfl) (hf 0 _ rfl) (by omega) (by rw [h5]; decide)
  obtain ⟨v1, e1, w1⟩ := fld_int (k := 1) Try.underlying3 (by kernel_rfl) (hf 1 _ rfl) (by omega) (by rw [h5]; decide)
  obtain ⟨v2, e2, w2⟩ := fld_int (k := 2) Try.underlying3 (by kernel_rfl) (hf 2 _ rfl) (by omega) (by rw [h5]; decide)
  obtain ⟨v3, e3, w3⟩ := fld_int (k := 3) Try.underlying3 (by kernel_rfl) (hf 3 _ rfl) (by omega) (by rw [h5]; decide)
  obtain ⟨v4, e4, w4⟩ := fld_int (k := 4) Try.underlying2 (by kernel_rfl) (hf 4 _ rfl) (by omega) (by rw [h5]; decide)
  refine ⟨⟨v0, v1, v2, v3, v4⟩, ?_, w0, w1, w2, w3, w4⟩
  obtain ⟨a, b, c, d, e, rfl⟩ := len5 h5
  simp only [List.getElem?_cons_zero, List.getElem?_cons_succ, Option.some.injEq] at e0 e1 e2 e3 e4
  rw [e0, e1, e2, e3, e4]
  rfl

/-- A source function as a value. -/
def IsFn (w : World) (cs : Array Value) : Prop :=
  ∃ (args regs : Int) (A : Option Addr) (bs : List Blk) (c : Nat), cs = #[.int .i64 args, .int .i64 regs, .slice A bs.length c] ∧ I64 args ∧ I64 regs ∧ bs.length ≤ c ∧ c ≤ maxLen ∧ BlksAt w w.heap.size A bs ∧ ∀ y ∈ bs, y.Wf

def IsIn (w : World) (cs : Array Value) : Prop := ∃ x : In, cs = #[.int .i64 x.op, .int .i64 x.d, .int .i64 x.a, .int .i64 x.b, .int .i64 x.imm] ∧ x.Wf

def IsTm (w : World) (cs : Array Value) : Prop := ∃ t : Tm, cs = #[.int .i64 t.kind, .int .i64 t.a, .int .i64 t.to, .int .i64 t.el] ∧ t.Wf

theorem IsIn.of {cs : Array Value} {x : DataW H × List MemPlace} (h : DataW.trod enc Try.prog w base spare held fuel 30 cs.toList = some x) : IsIn w cs := by
  obtain ⟨y, hy, hw⟩ := In.of h
  obtain ⟨cs⟩ := cs
  exact ⟨y, congrArg List.toArray hy, hw⟩

theorem IsTm.of {cs : Array Value} {x : DataW H × List MemPlace} (h : DataW.trod enc Try.prog w base spare held fuel 37 cs.toList = some x) : IsTm w cs := by
  obtain ⟨y, hy, hw⟩ := Tm.of h
  obtain ⟨cs⟩ := cs
  exact ⟨y, congrArg List.toArray hy, hw⟩

end

end Go.Proofs.Ytacmgfndmolnfaa
