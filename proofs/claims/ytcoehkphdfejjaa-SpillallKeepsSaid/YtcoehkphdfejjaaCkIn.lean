/-
  A certificate that came in as a value, and what memory shows of one.
-/
import Derived.Test.YtcoehkphdfejjaaCt
import Derived.Test.YtcoehkphdfejjaaPpIn
import Derived.Test.YtcoehkphdfejjaaPk1
namespace Go.Proofs.Ytcoehkphdfejjaa
open Go.RowKit Go.ChangeShapes Go.WideShapes Go.Deep
set_option linter.unusedVariables false

/-- What memory shows of a certificate's slices, below block B. -/
structure CeAt (w : World) (B : Nat) (A1 : Option Addr) (k1 : Nat) (A2 : Option Addr) (k2 : Nat) (A3 : Option Addr) (k3 : Nat) (c : Ct) : Prop where
  bs : BlksAt w B A1 c.bs
  ms : MBlksAt w B A2 c.ms
  inv : SeesPP w B A3 c.inv
  l1 : c.bs.length ≤ k1 ∧ k1 ≤ maxLen
  l2 : c.ms.length ≤ k2 ∧ k2 ≤ maxLen
  l3 : c.inv.length ≤ k3 ∧ k3 ≤ maxLen

section
variable {w w' : World} {B B' : Nat} {A1 : Option Addr} {k1 : Nat} {A2 : Option Addr} {k2 : Nat} {A3 : Option Addr} {k3 : Nat} {c : Ct}

theorem CeAt.below (h : CeAt w B A1 k1 A2 k2 A3 k3 c) (hb : Below B w w') : CeAt w' B A1 k1 A2 k2 A3 k3 c := ⟨h.bs.below hb, h.ms.below hb, h.inv.below hb, h.l1, h.l2, h.l3⟩

theorem CeAt.more (h : CeAt w B A1 k1 A2 k2 A3 k3 c) (hB : B ≤ B') : CeAt w B' A1 k1 A2 k2 A3 k3 c := ⟨h.bs.more hB, h.ms.more hB, h.inv.more hB, h.l1, h.l2, h.l3⟩

end

/-- What a certificate's numbers and instructions are. -/
structure Ct.Wf (c : Ct) : Prop where
  sa : I64 c.sa
  sr : I64 c.sr
  ta : I64 c.ta
  tr : I64 c.tr
  ts : I64 c.ts
  bs : ∀ y ∈ c.bs, y.Wf
  ms : ∀ y ∈ c.ms, y.Wf
  inv : ∀ l ∈ c.inv, ∀ p ∈ l, PrWf p

/-- A certificate as a value. -/
def IsCert (w : World) (cs : Array Value) : Prop :=
  ∃ (c : Ct) (A1 : Option Addr) (k1 : Nat) (A2 : Option Addr) (k2 : Nat) (A3 : Option Addr) (k3 : Nat),
    cs = #[.int .i64 c.sa, .int .i64 c.sr, .slice A1 c.bs.length k1, .int .i64 c.ta, .int .i64 c.tr, .int .i64 c.ts, .slice A2 c.ms.length k2, .slice A3 c.inv.length k3] ∧ CeAt w w.heap.size A1 k1 A2 k2 A3 k3 c ∧ c.Wf

theorem len8 {α : Type} {l : List α} (h : l.length = 8) : ∃ a b c d e f g i, l = [a, b, c, d, e, f, g, i] := by
  rcases l with _ | ⟨a, _ | ⟨b, _ | ⟨c, _ | ⟨d, _ | ⟨e, _ | ⟨f, _ | ⟨g, _ | ⟨i, _ | ⟨j, r⟩⟩⟩⟩⟩⟩⟩⟩⟩ <;> simp at h
  exact ⟨_, _, _, _, _, _, _, _, rfl⟩

set_option maxRecDepth 100000 in
theorem IsCert.of {H : Type} {enc : TypeId × Value → H} {w : World} {base : Nat} {spare : Nat → Bool} {held : Bool} {fuel : Nat} {cs : Array Value} {x : DataW H × List MemPlace} (h : DataW.trod enc Try.prog w base spare held fuel 32 cs.toList = some x) : IsCert w cs := by
  obtain ⟨cs⟩ := cs
  obtain ⟨xs, n, _, _, hl, hxl, hf⟩ := DataW.trod_struct Try.underlying32 h
  have h8 : cs.length = 8 := hl.trans (by kernel_rfl)
  have hx3 : xs.length = 3 := hxl
  have f0 := hf 0 _ rfl
  have f1 := hf 1 _ rfl
  obtain ⟨v2, y2, e2, t2⟩ := fld_cell (k := 7) (cs := cs) (by kernel_rfl) (hf 2 _ rfl) (by omega) (by rw [h8]; decide)
  obtain ⟨a, b, c, d, e, f, g, i, rfl⟩ := len8 h8
  simp only [List.getElem?_cons_zero, List.getElem?_cons_succ, Option.some.injEq] at e2
  subst e2
  rw [List.getElem?_eq_getElem (by omega : 0 < xs.length)] at f0
  rw [List.getElem?_eq_getElem (by omega : 1 < xs.length)] at f1
  have c0 : Try.prog.cellsOf 24 = 3 := by kernel_rfl
  have c1 : Try.prog.cellsOf 29 = 4 := by kernel_rfl
  have f0' : DataW.trod enc Try.prog w base spare held n 24 (#[a, b, c] : Array Value).toList = some xs[0] := f0
  have f1' : DataW.trod enc Try.prog w base spare held n 29 (#[d, e, f, g] : Array Value).toList = some xs[1] := f1
  obtain ⟨sa, sr, A1, bs, k1, q1, w1, w2, g1, g2, g3, g4⟩ := IsFn.of f0'
  obtain ⟨ta, tr, ts, A2, ms, k2, q2, w3, w4, w5, g5, g6, g7, g8⟩ := IsMFn.of f1'
  injection q1 with q1
  injection q1 with p1 q1
  injection q1 with p2 q1
  injection q1 with p3 q1
  injection q2 with q2
  injection q2 with p4 q2
  injection q2 with p5 q2
  injection q2 with p6 q2
  injection q2 with p7 q2
  subst p1 p2 p3 p4 p5 p6 p7
  rcases open_slice Try.underlying30 t2 with ⟨h0, _⟩ | ⟨ad, l, k3, _, _, _, _, h0, _⟩
  · injection h0 with h0 _
    subst h0
    obtain ⟨ls, hls, hs, hw, hc, hm⟩ := IsPrss.of t2
    have : ls = [] := List.length_eq_zero_iff.1 hls
    subst this
    exact ⟨⟨sa, sr, bs, ta, tr, ts, ms, []⟩, A1, k1, A2, k2, none, 0, rfl, ⟨g3, g7, hs, ⟨g1, g2⟩, ⟨g5, g6⟩, ⟨Nat.le_refl _, Nat.zero_le _⟩⟩, ⟨w1, w2, w3, w4, w5, g4, g8, hw⟩⟩
  · injection h0 with h0 _
    subst h0
    obtain ⟨ls, rfl, hs, hw, hc, hm⟩ := IsPrss.of t2
    exact ⟨⟨sa, sr, bs, ta, tr, ts, ms, ls⟩, A1, k1, A2, k2, some ad, k3, rfl, ⟨g3, g7, hs, ⟨g1, g2⟩, ⟨g5, g6⟩, ⟨hc, hm⟩⟩, ⟨w1, w2, w3, w4, w5, g4, g8, hw⟩⟩

end Go.Proofs.Ytcoehkphdfejjaa
