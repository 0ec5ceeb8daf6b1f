/-
  Allocated functions and machine instructions as they come in.
-/
import Derived.Test.YtacmgfndmolnfaaRd
import Derived.Test.YtacmgfndmolnfaaPk1
import Derived.Deep.Slices
import Derived.Deep.Fields
namespace Go.Proofs.Ytacmgfndmolnfaa
open Go.RowKit Go.ChangeShapes Go.WideShapes Go.Deep
set_option linter.unusedVariables false
set_option maxRecDepth 100000

def Mi.Wf (x : Mi) : Prop := I64 x.op ∧ I64 x.d ∧ I64 x.a ∧ I64 x.b ∧ I64 x.imm ∧ I64 x.dst ∧ I64 x.src

def MBlk.Wf (x : MBlk) : Prop := (∀ y ∈ x.code, y.Wf) ∧ x.term.Wf

theorem I64.fits {x : Int} (h : I64 x) : Fits x := i64_of_wf h

theorem Mi.Wf.ok {x : Mi} (h : x.Wf) : x.Ok := ⟨h.2.2.2.2.2.1.fits, h.2.2.2.2.2.2.fits⟩

theorem len7 {α : Type} {l : List α} (h : l.length = 7) : ∃ a b c d e f g, l = [a, b, c, d, e, f, g] := by
  rcases l with _ | ⟨a, _ | ⟨b, _ | ⟨c, _ | ⟨d, _ | ⟨e, _ | ⟨f, _ | ⟨g, _ | ⟨i, r⟩⟩⟩⟩⟩⟩⟩⟩ <;> simp at h
  exact ⟨_, _, _, _, _, _, _, rfl⟩

theorem Mi.of {H : Type} {enc : TypeId × Value → H} {w : World} {base : Nat} {spare : Nat → Bool} {held : Bool} {fuel : Nat} {cs : List Value} {x : DataW H × List MemPlace} (h : DataW.trod enc Try.prog w base spare held fuel 34 cs = some x) : ∃ y : Mi, cs = y.cells ∧ y.Wf := by
  obtain ⟨xs, n, _, _, hl, hxl, hf⟩ := DataW.trod_struct Try.underlying34 h
  have h5 : cs.length = 7 := hl.trans (by kernel_rfl)
  have hx5 : xs.length = 7 := hxl
  obtain ⟨v0, e0, w0⟩ := fld_int (k := 0) Try.underlying3 (by kernel_rfl) (hf 0 _ rfl) (by omega) (by rw [h5]; decide)
  obtain ⟨v1, e1, w1⟩ := fld_int (k := 1) Try.underlying3 (by kernel_rfl) (hf 1 _ rfl) (by omega) (by rw [h5]; decide)
  obtain ⟨v2, e2, w2⟩ := fld_int (k := 2) Try.underlying3 (by kernel_rfl) (hf 2 _ rfl) (by omega) (by rw [h5]; decide)
  obtain ⟨v3, e3, w3⟩ := fld_int (k := 3) Try.underlying3 (by kernel_rfl) (hf 3 _ rfl) (by omega) (by rw [h5]; decide)
  obtain ⟨v4, e4, w4⟩ := fld_int (k := 4) Try.underlying2 (by kernel_rfl) (hf 4 _ rfl) (by omega) (by rw [h5]; decide)
  obtain ⟨v5, e5, w5⟩ := fld_int (k := 5) Try.underlying32 (by kernel_rfl) (hf 5 _ rfl) (by omega) (by rw [h5]; decide)
  obtain ⟨v6, e6, w6⟩ := fld_int (k := 6) Try.underlying32 (by kernel_rfl) (hf 6 _ rfl) (by omega) (by rw [h5]; decide)
  refine ⟨⟨v0, v1, v2, v3, v4, v5, v6⟩, ?_, w0, w1, w2, w3, w4, w5, w6⟩
  obtain ⟨a, b, c, d, e, f, g, rfl⟩ := len7 h5
  simp only [List.getElem?_cons_zero, List.getElem?_cons_succ, Option.some.injEq] at e0 e1 e2 e3 e4 e5 e6
  rw [e0, e1, e2, e3, e4, e5, e6]
  rfl

/-- An allocated function as a value. -/
def IsMFn (w : World) (cs : Array Value) : Prop :=
  ∃ (args regs slots : Int) (A : Option Addr) (bs : List MBlk) (c : Nat), cs = #[.int .i64 args, .int .i64 regs, .int .i64 slots, .slice A bs.length c] ∧ I64 args ∧ I64 regs ∧ I64 slots ∧ bs.length ≤ c ∧ c ≤ maxLen ∧ MBlksAt w w.heap.size A bs ∧ ∀ y ∈ bs, y.Wf

def IsMi (w : World) (cs : Array Value) : Prop := ∃ x : Mi, cs = #[.int .i64 x.op, .int .i64 x.d, .int .i64 x.a, .int .i64 x.b, .int .i64 x.imm, .int .i64 x.dst, .int .i64 x.src] ∧ x.Wf

theorem IsMi.of {H : Type} {enc : TypeId × Value → H} {w : World} {base : Nat} {spare : Nat → Bool} {held : Bool} {fuel : Nat} {cs : Array Value} {x : DataW H × List MemPlace} (h : DataW.trod enc Try.prog w base spare held fuel 34 cs.toList = some x) : IsMi w cs := by
  obtain ⟨y, hy, hw⟩ := Mi.of h
  obtain ⟨cs⟩ := cs
  exact ⟨y, congrArg List.toArray hy, hw⟩

end Go.Proofs.Ytacmgfndmolnfaa
