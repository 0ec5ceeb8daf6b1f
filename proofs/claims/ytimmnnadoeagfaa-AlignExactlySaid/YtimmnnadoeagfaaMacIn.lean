/-
  Allocated functions and machine instructions as they come in.
-/
import Derived.Test.YtimmnnadoeagfaaRd
import Derived.Test.YtimmnnadoeagfaaMac
import Derived.Deep.Slices
import Derived.Deep.Fields
namespace Go.Proofs.Ytimmnnadoeagfaa
open Go.RowKit Go.ChangeShapes Go.WideShapes Go.Deep
set_option linter.unusedVariables false

def Mi.Wf (x : Mi) : Prop := I64 x.op ∧ I64 x.d ∧ I64 x.a ∧ I64 x.b ∧ I64 x.imm ∧ I64 x.dst ∧ I64 x.src

def MBlk.Wf (x : MBlk) : Prop := (∀ y ∈ x.code, y.Wf) ∧ x.term.Wf

theorem I64.fits {x : Int} (h : I64 x) : Fits x := i64_of_wf h

theorem Mi.Wf.ok {x : Mi} (h : x.Wf) : x.Ok := ⟨h.2.2.2.2.2.1.fits, h.2.2.2.2.2.2.fits⟩

theorem len7 {α : Type} {l : List α} (h : l.length = 7) : ∃ a b c d e f g, l = [a, b, c, d, e, f, g] := by
  rcases l with _ | ⟨a, _ | ⟨b, _ | ⟨c, _ | ⟨d, _ | ⟨e, _ | ⟨f, _ | ⟨g, _ | ⟨i, r⟩⟩⟩⟩⟩⟩⟩⟩ <;> simp at h
  exact ⟨_, _, _, _, _, _, _, rfl⟩

theorem Mi.of {H : Type} {enc : TypeId × Value → H} {w : World} {base : Nat} {spare : Nat → Bool} {held : Bool} {fuel : Nat} {cs : List Value} {x : DataW H × List MemPlace} (h : DataW.trod enc Try.prog w base spare held fuel 28 cs = some x) : ∃ y : Mi, cs = y.cells ∧ y.Wf := by
  obtain ⟨xs, n, _, _, hl, hxl, hf⟩ := DataW.trod_struct Try.underlying28 h
  have h5 : cs.length = 7 := hl.trans (by kernel_rfl)
  have hx5 : xs.length = 7 := hxl
  obtain ⟨v0, e0, w0⟩ := fld_int (k := 0) Try.underlying3 (by kernel_rfl) (hf 0 _ rfl) (by omega) (by rw [h5]; decide)
  obtain ⟨v1, e1, w1⟩ := fld_int (k := 1) Try.underlying3 (by kernel_rfl) (hf 1 _ rfl) (by omega) (by rw [h5]; decide)
  obtain ⟨v2, e2, w2⟩ := fld_int (k := 2) Try.underlying3 (by kernel_rfl) (hf 2 _ rfl) (by omega) (by rw [h5]; decide)
  obtain ⟨v3, e3, w3⟩ := fld_int (k := 3) Try.underlying3 (by kernel_rfl) (hf 3 _ rfl) (by omega) (by rw [h5]; decide)
  obtain ⟨v4, e4, w4⟩ := fld_int (k := 4) Try.underlying2 (by kernel_rfl) (hf 4 _ rfl) (by omega) (by rw [h5]; decide)
  obtain ⟨v5, e5, w5⟩ := fld_int (k := 5) Try.underlying26 (by kernel_rfl) (hf 5 _ rfl) (by omega) (by rw [h5]; decide)
  obtain ⟨v6, e6, w6⟩ := fld_int (k := 6) Try.underlying26 (by kernel_rfl) (hf 6 _ rfl) (by omega) (by rw [h5]; decide)
  refine ⟨⟨v0, v1, v2, v3, v4, v5, v6⟩, ?_, w0, w1, w2, w3, w4, w5, w6⟩
  obtain ⟨a, b, c, d, e, f, g, rfl⟩ := len7 h5
  simp only [List.getElem?_cons_zero, List.getElem?_cons_succ, Option.some.injEq] at e0 e1 e2 e3 e4 e5 e6
  rw [e0, e1, e2, e3, e4, e5, e6]
  rfl

/-- The instructions of a block that came in. -/
theorem MisAt.of {H : Type} {enc : TypeId × Value → H} {w : World} {base : Nat} {spare : Nat → Bool} {held : Bool} {fuel : Nat} {a : Option Addr} {len cap : Nat} {x : DataW H × List MemPlace} (h : DataW.trod enc Try.prog w base spare held fuel 23 [.slice a len cap] = some x) :
    ∃ xs : List Mi, xs.length = len ∧ len ≤ cap ∧ cap ≤ maxLen ∧ MisAt w w.heap.size a xs ∧ ∀ y ∈ xs, y.Wf := by
  obtain ⟨hl, hm, hi⟩ := trod_elems (s := 7) Try.underlying23 (by kernel_rfl) (by decide) h
  have each : ∀ i, i < len → ∃ y : Mi, y.Wf ∧ ∃ b o, a = some ⟨b, o, none⟩ ∧ b < w.heap.size ∧ y.At w b (o + i * 7) := fun i hil => by
    obtain ⟨b, o, n, cs, z, rfl, hlt, hcl, hat, ht⟩ := hi i hil
    obtain ⟨y, rfl, hy⟩ := Mi.of ht
    have g := fun j (hj : j < 7) => hat j hj
    have g0 := g 0 (by decide); have g1 := g 1 (by decide); have g2 := g 2 (by decide); have g3 := g 3 (by decide); have g4 := g 4 (by decide); have g5 := g 5 (by decide); have g6 := g 6 (by decide)
    refine ⟨y, hy, b, o, rfl, hlt, hy.ok, ?_, ?_, ?_, ?_, ?_, ?_, ?_⟩
    · exact g0
    · rw [Nat.add_assoc]; exact g1
    · rw [Nat.add_assoc]; exact g2
    · rw [Nat.add_assoc]; exact g3
    · rw [Nat.add_assoc]; exact g4
    · rw [Nat.add_assoc]; exact g5
    · rw [Nat.add_assoc]; exact g6
  haveI : Inhabited Mi := ⟨⟨0, 0, 0, 0, 0, 0, 0⟩⟩
  obtain ⟨y, hy⟩ := choose_lt each
  refine ⟨(List.range len).map y, by simp, hl, hm, fun hn => ?_, fun z hz => ?_⟩
  · have h0 : 0 < len := by
      rcases Nat.eq_zero_or_pos len with h0 | h0
      · subst h0; simp at hn
      · exact h0
    obtain ⟨_, b, o, rfl, hb, _⟩ := hy 0 h0
    refine ⟨b, o, rfl, hb, fun i z hz => ?_⟩
    have hil : i < len := by
      have := (List.getElem?_eq_some_iff.1 hz).1
      simpa using this
    obtain ⟨_, b', o', e, _, hat⟩ := hy i hil
    injection e with e
    injection e with e1 e2
    subst e1
    subst e2
    have : y i = z := by simpa [hil] using hz
    subst this
    exact hat
  · obtain ⟨i, hil, rfl⟩ := List.mem_map.1 hz
    exact (hy i (List.mem_range.1 hil)).1

/-- An allocated function as a value. -/
def IsMFn (w : World) (cs : Array Value) : Prop :=
  ∃ (args regs slots : Int) (A : Option Addr) (bs : List MBlk) (c : Nat), cs = #[.int .i64 args, .int .i64 regs, .int .i64 slots, .slice A bs.length c] ∧ I64 args ∧ I64 regs ∧ I64 slots ∧ bs.length ≤ c ∧ c ≤ maxLen ∧ MBlksAt w w.heap.size A bs ∧ ∀ y ∈ bs, y.Wf

def IsMi (w : World) (cs : Array Value) : Prop := ∃ x : Mi, cs = #[.int .i64 x.op, .int .i64 x.d, .int .i64 x.a, .int .i64 x.b, .int .i64 x.imm, .int .i64 x.dst, .int .i64 x.src] ∧ x.Wf

theorem IsMi.of {H : Type} {enc : TypeId × Value → H} {w : World} {base : Nat} {spare : Nat → Bool} {held : Bool} {fuel : Nat} {cs : Array Value} {x : DataW H × List MemPlace} (h : DataW.trod enc Try.prog w base spare held fuel 28 cs.toList = some x) : IsMi w cs := by
  obtain ⟨y, hy, hw⟩ := Mi.of h
  obtain ⟨cs⟩ := cs
  exact ⟨y, congrArg List.toArray hy, hw⟩

end Go.Proofs.Ytimmnnadoeagfaa
