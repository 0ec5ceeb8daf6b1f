/-
  Right; the fixed examples that every statement of layer 9 checks first.
-/
import Derived.Test.YtncigbpeempnfaaRunRx
import Derived.Test.YtncigbpeempnfaaPk8
import Derived.Test.YtncigbpeempnfaaRunStepI
namespace Go.Proofs.Ytncigbpeempnfaa
open Go.RowKit
set_option linter.unusedVariables false
set_option linter.unusedSimpArgs false

/-- What Right says. -/
def RightP9 (args regs : Int) (bs : List Blk) (fuel : Int) (na : Nat) (w : World) (e : Ending) (w' : World) : Prop :=
  (∃ b, e = .returned (.bool b) ∧ (b = true → FewF regs bs ∧ eF args regs bs = 0 ∧ fuel ≤ 400 ∧ na ≤ 100)) ∧ Below w.heap.size w w'

set_option maxRecDepth 100000 in
set_option maxHeartbeats 2000000 in
theorem right9_any (B : Nat) (A AA : Option Addr) (bs : List Blk) (c na ac : Nat) (args regs fuel : Int) (w : World) (hs : BlksAt w B A bs) (hB : B ≤ w.heap.size) (hm : bs.length ≤ maxLen) (hna : na ≤ maxLen) :
    Calls Try.prog 23 #[.agg #[.int .i64 args, .int .i64 regs, .slice A bs.length c], .slice AA na ac, .int .i64 fuel] w (RightP9 args regs bs fuel na w) := by
  have hb0 := (Below.refl w.heap.size w).alloc (Nat.le_refl _) (.cells #[.int .i64 args, .int .i64 regs, .slice A bs.length c] 24)
  have hbx := Row.new w 24 #[.int .i64 args, .int .i64 regs, .slice A bs.length c]
  have HB := Lib.hid hb0
  have HX := Lib.hid hbx
  have HS := Lib.hid ((hs.more hB).below hb0)
  have hna2 : na ≤ 9223372036854775807 := by unfold maxLen at hna; omega
  clear hb0 hbx hs hna
  go_enter Try.func23, Try.ntmps23
  go_upto_region 1 with fail
  generalize w.alloc (.cells #[.int .i64 args, .int .i64 regs, .slice A bs.length c] 24) = W0 at *
  have d0 := HX.out.cell 0; have d1 := HX.out.cell 1; have d2 := HX.out.cell 2
  simp only [List.getElem?_toArray, List.getElem?_cons_zero, List.getElem?_cons_succ] at d0 d1 d2
  go_wp2_with fail
  refine (rfew_any w.heap.size A bs c args regs W0 HS.out HB.out.size hm).mono ?_
  rintro e W1 ⟨⟨b, rfl, hf⟩, hb⟩
  have hx1 := HX.out.below hb HX.out.lt
  have HB1 := Lib.hid (HB.out.trans (hb.mono HB.out.size))
  have HS1 := Lib.hid (HS.out.below (hb.mono HB.out.size))
  have d0 := hx1.cell 0; have d1 := hx1.cell 1; have d2 := hx1.cell 2
  simp only [List.getElem?_toArray, List.getElem?_cons_zero, List.getElem?_cons_succ] at d0 d1 d2
  clear hb hx1 HB HS HX
  cases b
  · clear hf
    go_wp2
    go_ret
    exact ⟨⟨false, rfl, fun h => by cases h⟩, HB1.out⟩
  · have HF := Lib.hid (hf rfl)
    clear hf
    have C2 := Lib.hid (rcheck_any w.heap.size A bs c args regs W1 HS1.out HB1.out.size (by have := HF.out.1; omega) (by have := HF.out.2.2; omega))
    generalize hv : eF args regs bs = v at *
    have HE := Lib.hid hv
    clear hv
    go_wp2_with fail
    refine C2.out.mono ?_
    rintro e W2 ⟨rfl, hb⟩
    have HB2 := Lib.hid (HB1.out.trans (hb.mono HB1.out.size))
    clear hb C2 HS1 d0 d1 d2
    by_cases hv : v = 0
    · subst hv
      by_cases hfu : fuel ≤ 400
      · have HK := Lib.hid hfu
        go_wp2
        go_ret
        exact ⟨⟨decide ((na : Int) ≤ 100), rfl, fun h => ⟨HF.out, HE.out, HK.out, by have := of_decide_eq_true h; omega⟩⟩, HB2.out⟩
      · go_wp2
        go_ret
        exact ⟨⟨false, rfl, fun h => by cases h⟩, HB2.out⟩
    · have hv0 : (v == 0) = false := by simp [hv]
      clear hv
      go_wp2
      go_ret
      exact ⟨⟨false, rfl, fun h => by cases h⟩, HB2.out⟩

def exI : In := ⟨17, 0, 0, 0, 0⟩

def exR : Blk := ⟨[exI], ⟨3, 0, 0, 0⟩⟩

theorem exOk : OkF 1 [exR] := by
  refine ⟨by decide, fun b hb i hi => ?_, fun b hb => ?_⟩
  · simp only [List.mem_singleton] at hb
    subst hb
    simp only [exR, List.mem_singleton] at hi
    subst hi
    exact ⟨by unfold InI exI; decide, by decide, by decide, .inl rfl⟩
  · simp only [List.mem_singleton] at hb
    subst hb
    exact .inr (.inr ⟨rfl, by decide, by decide⟩)

/-- What the examples lay into memory. -/
structure AW (w W : World) : Prop where
  below : Below w.heap.size w W
  i : Row W w.heap.size 56 #[.int .i64 17, .int .i64 0, .int .i64 0, .int .i64 0, .int .i64 0]
  b : Row W (w.heap.size + 1) 34 #[.slice (some ⟨w.heap.size, 0, none⟩) 1 1, .int .i64 3, .int .i64 0, .int .i64 0, .int .i64 0]
  f : Row W (w.heap.size + 1 + 1) 24 #[.int .i64 1, .int .i64 1, .slice (some ⟨w.heap.size + 1, 0, none⟩) 1 1]

theorem AW.next {w W W' : World} (h : AW w W) (hb : Below W.heap.size W W') : AW w W' :=
  ⟨h.below.trans (hb.mono h.below.size), h.i.below hb h.i.lt, h.b.below hb h.b.lt, h.f.below hb h.f.lt⟩

theorem AW.alloc {w W : World} (h : AW w W) (o : Obj) : AW w (W.alloc o) := h.next ((Below.refl _ _).alloc (Nat.le_refl _) o)

theorem AW.start (w : World) : AW w (((w.alloc (.cells #[.int .i64 17, .int .i64 0, .int .i64 0, .int .i64 0, .int .i64 0] 56)).alloc (.cells #[.slice (some ⟨w.heap.size, 0, none⟩) 1 1, .int .i64 3, .int .i64 0, .int .i64 0, .int .i64 0] 34)).alloc (.cells #[.int .i64 1, .int .i64 1, .slice (some ⟨w.heap.size + 1, 0, none⟩) 1 1] 24)) where
  below := (((Below.refl w.heap.size w).alloc (Nat.le_refl _) _).alloc (by simp) _).alloc (by simp; omega) _
  i := ((Row.new w _ _).alloc _).alloc _
  b := (Row.new' (p := w.heap.size + 1) (by simp) _ _).alloc _
  f := Row.new' (p := w.heap.size + 1 + 1) (by simp) _ _

theorem AW.blks {w W : World} (h : AW w W) : BlksAt W (w.heap.size + 1 + 1) (some ⟨w.heap.size + 1, 0, none⟩) [exR] := fun _ => by
  refine ⟨w.heap.size + 1, 0, rfl, by omega, fun i x hx => ?_⟩
  have hi : i = 0 := by
    have := (List.getElem?_eq_some_iff.1 hx).1
    simpa using this
  subst hi
  simp only [List.getElem?_cons_zero, Option.some.injEq] at hx
  subst hx
  refine ⟨⟨some ⟨w.heap.size, 0, none⟩, 1, h.b.cell 0, Nat.le_refl _, by decide, fun _ => ⟨w.heap.size, 0, rfl, by omega, fun j y hy => ?_⟩⟩, h.b.cell 1, h.b.cell 2, h.b.cell 3, h.b.cell 4⟩
  have hj : j = 0 := by
    have := (List.getElem?_eq_some_iff.1 hy).1
    simpa [exR] using this
  subst hj
  simp only [exR, List.getElem?_cons_zero, Option.some.injEq] at hy
  subst hy
  exact ⟨h.i.cell 0, h.i.cell 1, h.i.cell 2, h.i.cell 3, h.i.cell 4⟩

end Go.Proofs.Ytncigbpeempnfaa
