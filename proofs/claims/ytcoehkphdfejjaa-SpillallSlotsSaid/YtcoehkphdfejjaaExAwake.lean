/-
  The fixed examples that every statement of layer 10 checks first.
-/
import Derived.Test.YtcoehkphdfejjaaExRx
import Derived.Test.YtcoehkphdfejjaaPk9
import Derived.Test.YtcoehkphdfejjaaExStepI
namespace Go.Proofs.Ytcoehkphdfejjaa
open Go.RowKit
set_option linter.unusedVariables false
set_option linter.unusedSimpArgs false

theorem xexec_at {W : World} {B : Nat} {BA AA : Option Addr} (bc ac : Nat) (args : List Int) (n m : Nat) (bs : List MBlk) (fa fr fs fuel : Int) (na nb : Nat) (r : Xn) (h1 : (args.length : Int) = fa) (h2 : (n : Int) = fr) (h2' : (m : Int) = fs) (h3 : bs.length = nb) (h4 : args.length = na) (hr : runX bs (xn0 n m args) fuel.toNat = r)
    (hs : Sees W B AA (ints args)) (hbs : MBlksAt W B BA bs) (hB : B ≤ W.heap.size) (hn : n ≤ 1000) (hm9 : m ≤ 1000) (hl : na ≤ m) (hF : OkM n m bs) (hwa : ∀ v ∈ args, InI v) (hcn : mcodeN bs ≤ 1000000) (hm : nb ≤ 1000) (hfu : fuel ≤ 1000000) :
    Calls Try.prog 17 #[.agg #[.int .i64 fa, .int .i64 fr, .int .i64 fs, .slice BA nb bc], .slice AA na ac, .int .i64 fuel] W (XQ W r 0) := by
  subst h1
  subst h2
  subst h2'
  subst h3
  subst h4
  subst hr
  exact xexec_any args n m bs B BA AA bc ac fuel W hs hbs hB hn hm9 hl hF hwa hcn hm hfu

def xexI : Mi := ⟨18, 0, 0, 0, 0, 0, 1⟩

def xexR : MBlk := ⟨[xexI], ⟨3, 0, 0, 0⟩⟩

theorem xexOk : OkM 1 1 [xexR] := by
  refine ⟨by decide, fun b hb i hi => ?_, fun b hb => ?_⟩
  · simp only [List.mem_singleton] at hb
    subst hb
    simp only [xexR, List.mem_singleton] at hi
    subst hi
    exact .inl ⟨rfl, ⟨by decide, .inr ⟨by decide, by decide⟩⟩, ⟨by decide, .inl ⟨by decide, by decide⟩⟩⟩
  · simp only [List.mem_singleton] at hb
    subst hb
    exact .inr (.inr ⟨rfl, by decide, by decide⟩)

/-- What the examples lay into memory. -/
structure XAW (w W : World) : Prop where
  below : Below w.heap.size w W
  i : Row W w.heap.size 69 #[.int .i64 18, .int .i64 0, .int .i64 0, .int .i64 0, .int .i64 0, .int .i64 0, .int .i64 1]
  b : Row W (w.heap.size + 1) 49 #[.slice (some ⟨w.heap.size, 0, none⟩) 1 1, .int .i64 3, .int .i64 0, .int .i64 0, .int .i64 0]
  f : Row W (w.heap.size + 1 + 1) 29 #[.int .i64 1, .int .i64 1, .int .i64 1, .slice (some ⟨w.heap.size + 1, 0, none⟩) 1 1]

theorem XAW.next {w W W' : World} (h : XAW w W) (hb : Below W.heap.size W W') : XAW w W' :=
  ⟨h.below.trans (hb.mono h.below.size), h.i.below hb h.i.lt, h.b.below hb h.b.lt, h.f.below hb h.f.lt⟩

theorem XAW.alloc {w W : World} (h : XAW w W) (o : Obj) : XAW w (W.alloc o) := h.next ((Below.refl _ _).alloc (Nat.le_refl _) o)

theorem XAW.start (w : World) : XAW w (((w.alloc (.cells #[.int .i64 18, .int .i64 0, .int .i64 0, .int .i64 0, .int .i64 0, .int .i64 0, .int .i64 1] 69)).alloc (.cells #[.slice (some ⟨w.heap.size, 0, none⟩) 1 1, .int .i64 3, .int .i64 0, .int .i64 0, .int .i64 0] 49)).alloc (.cells #[.int .i64 1, .int .i64 1, .int .i64 1, .slice (some ⟨w.heap.size + 1, 0, none⟩) 1 1] 29)) where
  below := (((Below.refl w.heap.size w).alloc (Nat.le_refl _) _).alloc (by simp) _).alloc (by simp; omega) _
  i := ((Row.new w _ _).alloc _).alloc _
  b := (Row.new' (p := w.heap.size + 1) (by simp) _ _).alloc _
  f := Row.new' (p := w.heap.size + 1 + 1) (by simp) _ _

theorem XAW.blks {w W : World} (h : XAW w W) : MBlksAt W (w.heap.size + 1 + 1) (some ⟨w.heap.size + 1, 0, none⟩) [xexR] := fun _ => by
  refine ⟨w.heap.size + 1, 0, rfl, by omega, fun i x hx => ?_⟩
  have hi : i = 0 := by
    have := (List.getElem?_eq_some_iff.1 hx).1
    simpa using this
  subst hi
  simp only [List.getElem?_cons_zero, Option.some.injEq] at hx
  subst hx
  refine ⟨⟨some ⟨w.heap.size, 0, none⟩, 1, h.b.cell 0, Nat.le_refl _, by decide, fun _ => ⟨w.heap.size, 0, rfl, by omega, fun j y hy => ?_⟩⟩, h.b.cell 1, h.b.cell 2, h.b.cell 3, h.b.cell 4⟩
  have hj : j = 0 := by
    have := (List.getElem?_eq_some_iff.1 hy).1
    simpa [xexR] using this
  subst hj
  simp only [xexR, List.getElem?_cons_zero, Option.some.injEq] at hy
  subst hy
  exact ⟨⟨by constructor <;> decide, by constructor <;> decide⟩, h.i.cell 0, h.i.cell 1, h.i.cell 2, h.i.cell 3, h.i.cell 4, h.i.cell 5, h.i.cell 6⟩

/-- A literal of one number is owned. -/
theorem own_lit (W : World) (x : Int) : (W.alloc (.cells #[.int .i64 x] 2)).ownsRow W.heap.size 2 1 (.slice (some ⟨W.heap.size, 0, none⟩) 1 1) 1 (ints [x]) :=
  ⟨by simp [ints_length], .inr ⟨W.heap.size, 1, (ints [x]).toArray, rfl, Nat.le_refl _, heap_alloc_new W _, Nat.le_refl _, by decide, by simp [ints_length], by simp [List.take_of_length_le, ints_length]⟩⟩

end Go.Proofs.Ytcoehkphdfejjaa
