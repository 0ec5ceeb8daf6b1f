/-
  The fixed examples that every statement of layer 8 checks first: they come out true.
-/
import Derived.Test.YtcindgaonaloeaaMacCheck
import Derived.Test.YtcindgaonaloeaaMacMov
import Derived.Test.YtcindgaonaloeaaMid
import Derived.Deep.Cut
import Derived.Deep.CutRange
namespace Go.Proofs.Ytcindgaonaloeaa
open Go.RowKit
set_option linter.unusedVariables false

theorem mcheck_at {W : World} {B : Nat} {A : Option Addr} {bs : List MBlk} {args regs slots v : Int} (c n : Nat) (hs : MBlksAt W B A bs) (hB : B ≤ W.heap.size) (hl : bs.length = n) (hm : n ≤ 1000) (hn : mcodeN bs ≤ 1000000) (hv : eMF args regs slots bs = v) :
    Calls Try.prog 11 #[.agg #[.int .i64 args, .int .i64 regs, .int .i64 slots, .slice A n c]] W fun e w' => e = .returned (.int .i64 v) ∧ Below W.heap.size W w' := by
  subst hl
  subst hv
  exact mcheck_any B A bs c args regs slots W hs hB hm hn
theorem mcode_at {W : World} {B : Nat} {A : Option Addr} {bs : List MBlk} {args regs slots : Int} (c n m : Nat) (hs : MBlksAt W B A bs) (hB : B ≤ W.heap.size) (hl : bs.length = n) (hm : n ≤ 1000) (hn : mcodeN bs ≤ 1000000) (hv : mcodeN bs = m) :
    Calls Try.prog 15 #[.agg #[.int .i64 args, .int .i64 regs, .int .i64 slots, .slice A n c]] W fun e w' => e = .returned (.int .i64 m) ∧ Below W.heap.size W w' := by
  subst hl
  subst hv
  exact mcode_any B A bs c args regs slots W hs hB hm hn
theorem minstr_at {W : World} (x : Mi) (regs slots v : Int) (hx : x.Ok) (hv : eM x regs slots = v) :
    Calls Try.prog 13 #[.agg #[.int .i64 x.op, .int .i64 x.d, .int .i64 x.a, .int .i64 x.b, .int .i64 x.imm, .int .i64 x.dst, .int .i64 x.src], .int .i64 regs, .int .i64 slots] W fun e w' => e = .returned (.int .i64 v) ∧ Below W.heap.size W w' := by
  subst hv
  exact minstr_any x regs slots W hx
theorem moves_at {W : World} {B : Nat} {A : Option Addr} {xs : List Mi} (c n m : Nat) (hs : MisAt W B A xs) (hB : B ≤ W.heap.size) (hl : xs.length = n) (hm : n ≤ 1000000) (hv : mvs xs = m) :
    Calls Try.prog 9 #[.slice A n c] W fun e w' => e = .returned (.int .i64 m) ∧ Below W.heap.size W w' := by
  subst hl
  subst hv
  exact moves_any B A xs c W hs hB hm

/-- The move of the examples. -/
def mv0 : Mi := ⟨18, 0, 0, 0, 0, 0, 1⟩
theorem mv0_ok : mv0.Ok := by constructor <;> constructor <;> decide
def exN (n : Nat) : MBlk := ⟨List.replicate n mv0, ⟨3, 0, 0, 0⟩⟩
theorem ex64 : eMF 0 1 1 [exN 64] = 0 := by decide +kernel
theorem ex65 : eMF 0 1 1 [exN 65] = 15 := by decide +kernel
theorem ex65m : mvs (List.replicate 65 mv0) = 65 := by decide +kernel

/-- The array of moves, filled up to k. -/
def Fill (w : World) (g k : Nat) : Prop := ∃ cs, Row w g 27 cs ∧ cs.size = 455 ∧ ∀ i, i < k → ∀ j v, mv0.cells[j]? = some v → cs[i * 7 + j]? = some v
theorem Fill.step {w : World} {g k : Nat} (h : Fill w g k) (hk : k < 65) : Fill (w.setCells g (k * 7) mv0.cells) g (k + 1) := by
  obtain ⟨cs, h1, h2, h3⟩ := h
  refine ⟨_, h1.writes _ _, by rw [setA_size]; exact h2, fun i hi j v hv => ?_⟩
  have hj : j < 7 := (List.getElem?_eq_some_iff.1 hv).1
  rcases Nat.lt_or_ge i k with h4 | h4
  · rw [setA_out _ _ _ _ (.inl (by omega))]
    exact h3 i h4 j v hv
  · obtain rfl : i = k := by omega
    exact setA_in _ _ _ _ _ hv (by rw [h2]; show i * 7 + 7 ≤ 455; omega)
theorem Fill.there {w : World} {g k i : Nat} (h : Fill w g k) (hi : i < 65) : w.there g (i * 7) 7 := by
  obtain ⟨cs, h1, h2, _⟩ := h
  exact h1.there _ _ (by omega)
theorem Fill.ins {w : World} {g : Nat} (h : Fill w g 65) : MisAt w (g + 1) (some ⟨g, 0, none⟩) (List.replicate 65 mv0) := fun _ => by
  obtain ⟨cs, h1, h2, h3⟩ := h
  refine ⟨g, 0, rfl, Nat.lt_succ_self _, fun i x hx => ?_⟩
  obtain ⟨hi, e⟩ := List.getElem?_eq_some_iff.1 hx
  rw [List.getElem_replicate] at e
  subst e
  rw [List.length_replicate] at hi
  have g := fun j v hv => (h1.cell (i * 7 + j)).trans (h3 i hi j v hv)
  refine ⟨mv0_ok, ?_, ?_, ?_, ?_, ?_, ?_, ?_⟩
  · rw [Nat.zero_add]; exact g 0 _ rfl
  · rw [Nat.zero_add]; exact g 1 _ rfl
  · rw [Nat.zero_add]; exact g 2 _ rfl
  · rw [Nat.zero_add]; exact g 3 _ rfl
  · rw [Nat.zero_add]; exact g 4 _ rfl
  · rw [Nat.zero_add]; exact g 5 _ rfl
  · rw [Nat.zero_add]; exact g 6 _ rfl

theorem make65 : ∃ Z : Array Value, Z.size = 455 ∧ ∀ w, (Instr.makeSlice 31 (.int .i64 65) (.int .i64 65)).run Try.prog w = .ok (.slice (some ⟨w.heap.size, 0, none⟩) 65 65) (w.alloc (.cells Z 27)) := by
  obtain ⟨i, hi, hz, hs, hb⟩ := info_parts (show (Try.prog.info? 27).map (fun i => (i.zero, i.size, i.bytes)) = some (some (.agg #[.int .i64 0, .int .i64 0, .int .i64 0, .int .i64 0, .int .i64 0, .int .i64 0, .int .i64 0]), 7, 56) from by kernel_rfl)
  refine ⟨_, ?_, fun w => run_make w _ _ i _ Try.underlying31 hi hz .i64 .i64 65 65 (by decide) (by decide) (by rw [hb]; decide) (by decide)⟩
  rw [size_madeCells, hs]
  rfl

/-- What the examples lay into memory: the move, the array of moves; then two blocks and two functions. -/
structure AL (w : World) (k : Nat) (W : World) : Prop where
  below : Below w.heap.size w W
  i : Row W w.heap.size 27 #[.int .i64 18, .int .i64 0, .int .i64 0, .int .i64 0, .int .i64 0, .int .i64 0, .int .i64 1]
  c : Fill W (w.heap.size + 1) k
structure AW (w : World) (z : Nat) (W : World) : Prop where
  lt : w.heap.size + 1 < z
  below : Below w.heap.size w W
  i : Row W w.heap.size 27 #[.int .i64 18, .int .i64 0, .int .i64 0, .int .i64 0, .int .i64 0, .int .i64 0, .int .i64 1]
  c : MisAt W (w.heap.size + 1 + 1) (some ⟨w.heap.size + 1, 0, none⟩) (List.replicate 65 mv0)
  b1 : Row W z 35 #[.slice (some ⟨w.heap.size + 1, 0, none⟩) 64 65, .int .i64 3, .int .i64 0, .int .i64 0, .int .i64 0]
  f : Row W (z + 1) 24 #[.int .i64 0, .int .i64 1, .int .i64 1, .slice (some ⟨z, 0, none⟩) 1 1]
  b2 : Row W (z + 1 + 1) 35 #[.slice (some ⟨w.heap.size + 1, 0, none⟩) 65 65, .int .i64 3, .int .i64 0, .int .i64 0, .int .i64 0]
  g : Row W (z + 1 + 1 + 1) 24 #[.int .i64 0, .int .i64 1, .int .i64 1, .slice (some ⟨z + 1 + 1, 0, none⟩) 1 1]
theorem AW.next {w W W' : World} {z : Nat} (h : AW w z W) (hb : Below W.heap.size W W') : AW w z W' :=
  ⟨h.lt, h.below.trans (hb.mono h.below.size), h.i.below hb h.i.lt, h.c.below (hb.mono (by have := h.lt; have := h.b1.lt; omega)), h.b1.below hb h.b1.lt, h.f.below hb h.f.lt, h.b2.below hb h.b2.lt, h.g.below hb h.g.lt⟩
theorem exblk {W : World} {g z n : Nat} (hr : Row W z 35 #[.slice (some ⟨g, 0, none⟩) n 65, .int .i64 3, .int .i64 0, .int .i64 0, .int .i64 0]) (hc : MisAt W (g + 1) (some ⟨g, 0, none⟩) (List.replicate 65 mv0)) (hg : g < z) (hn : n ≤ 65) : MBlksAt W (z + 1) (some ⟨z, 0, none⟩) [exN n] := fun _ => by
  refine ⟨z, 0, rfl, Nat.lt_succ_self _, fun i x hx => ?_⟩
  have hi : i = 0 := by
    have := (List.getElem?_eq_some_iff.1 hx).1
    simpa using this
  subst hi
  simp only [List.getElem?_cons_zero, Option.some.injEq] at hx
  subst hx
  have ht := (hc.take n).more (B' := z + 1) (by omega)
  rw [List.take_replicate, Nat.min_eq_left hn] at ht
  have hl : (exN n).code.length = n := by simp [exN]
  exact ⟨⟨some ⟨g, 0, none⟩, 65, by rw [hl]; exact hr.cell 0, by rw [hl]; exact hn, by decide, ht⟩, hr.cell 1, hr.cell 2, hr.cell 3, hr.cell 4⟩

set_option maxRecDepth 100000 in
set_option maxHeartbeats 1000000 in
theorem awake_any (w : World) : Calls Try.prog 7 #[] w fun e w' => e = .returned (.bool true) ∧ Below w.heap.size w w' := by
  have hgo : True := trivial
  obtain ⟨Z, hZ, hmk⟩ := make65
  have H0 : Hid (AL w 0 ((w.alloc (.cells #[.int .i64 18, .int .i64 0, .int .i64 0, .int .i64 0, .int .i64 0, .int .i64 0, .int .i64 1] 27)).alloc (.cells Z 27))) := ⟨((Below.refl w.heap.size w).alloc (Nat.le_refl _) _).alloc (by simp) _, (Row.new w _ _).alloc _, Z, Row.new' (by simp) _ _, hZ, fun i h => by omega⟩
  clear hZ
  go_enter Try.func7, Try.ntmps7
  go_wp2
  generalize (w.alloc (.cells #[.int .i64 18, .int .i64 0, .int .i64 0, .int .i64 0, .int .i64 0, .int .i64 0, .int .i64 1] 27)).alloc (.cells Z 27) = W0 at *
  clear hmk
  go_loopw [3] (fun i wr => ∃ k : Nat, k ≤ 65 ∧ i = .int .i64 k ∧ Hid (AL w k wr)) (fun i _ => 65 - (intOf i).toNat)
  case atStart => exact ⟨0, by omega, rfl, H0.out⟩
  case round =>
    obtain ⟨k, hk, rfl, HA⟩ := hrel
    clear H0
    by_cases hlt : k < 65
    · have c0 := HA.out.i.cell 0; have c1 := HA.out.i.cell 1; have c2 := HA.out.i.cell 2; have c3 := HA.out.i.cell 3; have c4 := HA.out.i.cell 4; have c5 := HA.out.i.cell 5; have c6 := HA.out.i.cell 6
      simp only [List.getElem?_toArray, List.getElem?_cons_zero, List.getElem?_cons_succ] at c0 c1 c2 c3 c4 c5 c6
      have HN : Hid (AL w (k + 1) (wr.setCells (w.heap.size + 1) (k * 7) mv0.cells)) := ⟨blw_setCells (by omega) _ _ HA.out.below, HA.out.i.farc _ _ (by omega), HA.out.c.step hlt⟩
      have HT := Lib.hid (HA.out.c.there hlt)
      go_wp2_with (with_reducible show wpList _ _ _ (⟨none, Op.store _ _ _, _, _, _, _⟩ :: _) _ _; refine wpList_store_mid rfl 27 _ _ rfl (w.heap.size + 1) (k * 7) #[.int .i64 18, .int .i64 0, .int .i64 0, .int .i64 0, .int .i64 0, .int .i64 0, .int .i64 1] ?hx ?hy ?ht ?hi ?h1 ?hh)
      case hx => rfl
      case hy => rfl
      case ht => exact HT.out
      case hi => kernel_rfl
      case h1 => kernel_rfl
      go_wp2
      go_roundw
      case rel => exact ⟨k + 1, by omega, by go_num, HN.out⟩
      case measure => simp [intOf]; omega
    · obtain rfl : k = 65 := by omega
      have HW : Hid (AW w wr.heap.size ((((wr.alloc (.cells #[.slice (some ⟨w.heap.size + 1, 0, none⟩) 64 65, .int .i64 3, .int .i64 0, .int .i64 0, .int .i64 0] 35)).alloc (.cells #[.int .i64 0, .int .i64 1, .int .i64 1, .slice (some ⟨wr.heap.size, 0, none⟩) 1 1] 24)).alloc (.cells #[.slice (some ⟨w.heap.size + 1, 0, none⟩) 65 65, .int .i64 3, .int .i64 0, .int .i64 0, .int .i64 0] 35)).alloc (.cells #[.int .i64 0, .int .i64 1, .int .i64 1, .slice (some ⟨wr.heap.size + 1 + 1, 0, none⟩) 1 1] 24))) := by
        have hz : w.heap.size + 1 < wr.heap.size := by obtain ⟨cs, h, _⟩ := HA.out.c; exact h.lt
        have hb := HA.out.below
        have hw := hb.size
        refine ⟨hz, (((hb.alloc hw _).alloc (by simp; omega) _).alloc (by simp; omega) _).alloc (by simp; omega) _, (((HA.out.i.alloc _).alloc _).alloc _).alloc _, ?_, (((Row.new wr _ _).alloc _).alloc _).alloc _, ((Row.new' (by simp) _ _).alloc _).alloc _, (Row.new' (by simp) _ _).alloc _, Row.new' (by simp) _ _⟩
        exact (((HA.out.c.ins.alloc (by omega) _).alloc (by simp; omega) _).alloc (by simp; omega) _).alloc (by simp; omega) _
      go_upto_region 9 with fail
      generalize ((((wr.alloc _).alloc _).alloc _).alloc _) = W1 at *
      generalize wr.heap.size = z at *
      have i0 := HW.out.i.cell 0; have i1 := HW.out.i.cell 1; have i2 := HW.out.i.cell 2; have i3 := HW.out.i.cell 3; have i4 := HW.out.i.cell 4; have i5 := HW.out.i.cell 5; have i6 := HW.out.i.cell 6
      simp only [List.getElem?_toArray, List.getElem?_cons_zero, List.getElem?_cons_succ] at i0 i1 i2 i3 i4 i5 i6
      go_wp2_with fail
      refine (minstr_at mv0 1 1 0 mv0_ok (by decide)).mono ?_
      rintro e W2 ⟨rfl, hb⟩
      have H2 := Lib.hid (HW.out.next hb)
      clear hb HW i0 i1 i2 i3 i4 i5 i6
      go_wp2_with fail
      refine (minstr_at ⟨18, 0, 0, 0, 0, 3, 1⟩ 9 9 10 (by constructor <;> constructor <;> decide) (by decide)).mono ?_
      rintro e W3 ⟨rfl, hb⟩
      have H3 := Lib.hid (H2.out.next hb)
      clear hb H2
      go_wp2_with fail
      refine (minstr_at ⟨2, 0, 0, 0, 0, 0, 0⟩ 9 9 8 (by constructor <;> constructor <;> decide) (by decide)).mono ?_
      rintro e W4 ⟨rfl, hb⟩
      have H4 := Lib.hid (H3.out.next hb)
      clear hb H3
      have f0 := H4.out.f.cell 0; have f1 := H4.out.f.cell 1; have f2 := H4.out.f.cell 2; have f3 := H4.out.f.cell 3
      simp only [List.getElem?_toArray, List.getElem?_cons_zero, List.getElem?_cons_succ] at f0 f1 f2 f3
      go_wp2_with fail
      refine (mcheck_at (v := 0) 1 1 (exblk H4.out.b1 H4.out.c (by have := H4.out.lt; omega) (by decide)) (by have := H4.out.b1.lt; omega) rfl (by decide) (by decide) ex64).mono ?_
      rintro e W5 ⟨rfl, hb⟩
      have H5 := Lib.hid (H4.out.next hb)
      clear hb H4 f0 f1 f2 f3
      have g0 := H5.out.g.cell 0; have g1 := H5.out.g.cell 1; have g2 := H5.out.g.cell 2; have g3 := H5.out.g.cell 3
      simp only [List.getElem?_toArray, List.getElem?_cons_zero, List.getElem?_cons_succ] at g0 g1 g2 g3
      go_wp2_with fail
      refine (mcheck_at (v := 15) 1 1 (exblk H5.out.b2 H5.out.c (by have := H5.out.lt; omega) (by decide)) (by have := H5.out.b2.lt; omega) rfl (by decide) (by decide) ex65).mono ?_
      rintro e W6 ⟨rfl, hb⟩
      have H6 := Lib.hid (H5.out.next hb)
      clear hb H5 g0 g1 g2 g3
      go_wp2_with fail
      refine (moves_at 65 65 65 H6.out.c (by have := H6.out.lt; have := H6.out.b1.lt; omega) (by simp) (by decide) ex65m).mono ?_
      rintro e W7 ⟨rfl, hb⟩
      have H7 := Lib.hid (H6.out.next hb)
      clear hb H6
      have g0 := H7.out.g.cell 0; have g1 := H7.out.g.cell 1; have g2 := H7.out.g.cell 2; have g3 := H7.out.g.cell 3
      simp only [List.getElem?_toArray, List.getElem?_cons_zero, List.getElem?_cons_succ] at g0 g1 g2 g3
      go_wp2_with fail
      refine (mcode_at 1 1 65 (exblk H7.out.b2 H7.out.c (by have := H7.out.lt; omega) (by decide)) (by have := H7.out.b2.lt; omega) rfl (by decide) (by decide) (by decide)).mono ?_
      rintro e W8 ⟨rfl, hb⟩
      have H8 := Lib.hid (H7.out.next hb)
      clear hb H7 g0 g1 g2 g3
      go_wp2_with fail
      refine (mcheck_at (v := 14) (B := 0) (bs := []) 0 0 MBlksAt.nil (Nat.zero_le _) rfl (by decide) (by decide) (by decide)).mono ?_
      rintro e W9 ⟨rfl, hb⟩
      have H9 := Lib.hid (H8.out.next hb)
      clear hb H8
      go_wp2
      go_ret
      exact ⟨rfl, H9.out.below⟩

end Go.Proofs.Ytcindgaonaloeaa
