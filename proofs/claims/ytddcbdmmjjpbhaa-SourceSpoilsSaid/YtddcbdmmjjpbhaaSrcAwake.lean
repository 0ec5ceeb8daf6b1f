/-
  The fixed examples that every statement of layer 7 checks first: they come out true.
-/
import Derived.Test.YtddcbdmmjjpbhaaSrcCheck
import Derived.Test.YtddcbdmmjjpbhaaSrcSucc
namespace Go.Proofs.Ytddcbdmmjjpbhaa
open Go.RowKit
set_option linter.unusedVariables false

def exB : Blk := ⟨[], ⟨3, 0, 0, 0⟩⟩
/-- What the examples lay into memory. -/
structure AW (w W : World) : Prop where
  below : Below w.heap.size w W
  b : Row W w.heap.size 44 #[.slice none 0 0, .int .i64 3, .int .i64 0, .int .i64 0, .int .i64 0]
  f : Row W (w.heap.size + 1) 24 #[.int .i64 0, .int .i64 1, .slice (some ⟨w.heap.size, 0, none⟩) 1 1]
  g : Row W (w.heap.size + 1 + 1) 24 #[.int .i64 0, .int .i64 0, .slice (some ⟨w.heap.size, 0, none⟩) 1 1]
theorem AW.next {w W W' : World} (h : AW w W) (hb : Below W.heap.size W W') : AW w W' :=
  ⟨h.below.trans (hb.mono h.below.size), h.b.below hb h.b.lt, h.f.below hb h.f.lt, h.g.below hb h.g.lt⟩
theorem AW.start (w : World) : AW w (((w.alloc (.cells #[.slice none 0 0, .int .i64 3, .int .i64 0, .int .i64 0, .int .i64 0] 44)).alloc (.cells #[.int .i64 0, .int .i64 1, .slice (some ⟨w.heap.size, 0, none⟩) 1 1] 24)).alloc (.cells #[.int .i64 0, .int .i64 0, .slice (some ⟨w.heap.size, 0, none⟩) 1 1] 24)) where
  below := (((Below.refl w.heap.size w).alloc (Nat.le_refl _) _).alloc (by simp) _).alloc (by simp; omega) _
  b := ((Row.new w _ _).alloc _).alloc _
  f := (Row.new' (p := w.heap.size + 1) (by simp) _ _).alloc _
  g := Row.new' (p := w.heap.size + 1 + 1) (by simp) _ _
theorem AW.blks {w W : World} (h : AW w W) : BlksAt W W.heap.size (some ⟨w.heap.size, 0, none⟩) [exB] := fun _ => by
  refine ⟨w.heap.size, 0, rfl, h.b.lt, fun i x hx => ?_⟩
  have hi : i = 0 := by
    have := (List.getElem?_eq_some_iff.1 hx).1
    simpa using this
  subst hi
  simp only [List.getElem?_cons_zero, Option.some.injEq] at hx
  subst hx
  exact ⟨⟨none, 0, h.b.cell 0, Nat.le_refl _, Nat.zero_le _, InsAt.nil⟩, h.b.cell 1, h.b.cell 2, h.b.cell 3, h.b.cell 4⟩

theorem check_at {W : World} {B : Nat} {A : Option Addr} {bs : List Blk} {args regs v : Int} (c n : Nat) (hs : BlksAt W B A bs) (hB : B ≤ W.heap.size) (hl : bs.length = n) (hm : n ≤ 1000) (hn : codeN bs ≤ 1000000) (hv : eF args regs bs = v) :
    Calls Try.prog 9 #[.agg #[.int .i64 args, .int .i64 regs, .slice A n c]] W fun e w' => e = .returned (.int .i64 v) ∧ Below W.heap.size W w' := by
  subst hl
  subst hv
  exact check_any B A bs c args regs W hs hB hm hn
theorem code_at {W : World} {B : Nat} {A : Option Addr} {bs : List Blk} {args regs : Int} (c n m : Nat) (hs : BlksAt W B A bs) (hB : B ≤ W.heap.size) (hl : bs.length = n) (hm : n ≤ 1000) (hn : codeN bs ≤ 1000000) (hv : codeN bs = m) :
    Calls Try.prog 15 #[.agg #[.int .i64 args, .int .i64 regs, .slice A n c]] W fun e w' => e = .returned (.int .i64 m) ∧ Below W.heap.size W w' := by
  subst hl
  subst hv
  exact code_any B A bs c args regs W hs hB hm hn
theorem instr_at {W : World} (x : In) (regs v : Int) (hv : eI x regs = v) :
    Calls Try.prog 11 #[.agg #[.int .i64 x.op, .int .i64 x.d, .int .i64 x.a, .int .i64 x.b, .int .i64 x.imm], .int .i64 regs] W fun e w' => e = .returned (.int .i64 v) ∧ Below W.heap.size W w' := by
  subst hv
  exact instr_any x regs W
theorem term_at {W : World} (t : Tm) (regs blocks v : Int) (hv : eT t regs blocks = v) :
    Calls Try.prog 13 #[.agg #[.int .i64 t.kind, .int .i64 t.a, .int .i64 t.to, .int .i64 t.el], .int .i64 regs, .int .i64 blocks] W fun e w' => e = .returned (.int .i64 v) ∧ Below W.heap.size W w' := by
  subst hv
  exact term_any t regs blocks W
theorem succ_at {W : World} (t : Tm) (l : List Int) (n : Nat) (hv : succs t = l) (hl : l.length = n) :
    Calls Try.prog 18 #[.agg #[.int .i64 t.kind, .int .i64 t.a, .int .i64 t.to, .int .i64 t.el]] W fun e w' => ∃ A c, e = .returned (.slice A n c) ∧ Sees w' w'.heap.size A (ints l) ∧ Below W.heap.size W w' := by
  subst hv
  subst hl
  exact (succ_any t W).mono fun e w' ⟨A, c, h1, _, _, h2, h3⟩ => ⟨A, c, h1, h2, h3⟩
theorem numbers_at {W : World} (B : Nat) {A A' : Option Addr} (l r : List Int) (n m c c' : Nat) (v : Bool) (hl : l.length = n) (hr : r.length = m) (hs : Sees W B A (ints l)) (hs' : Sees W B A' (ints r)) (hm : n ≤ 1000) (hm' : m ≤ 1000) (hv : sameI l r = v) :
    Calls Try.prog 17 #[.slice A n c, .slice A' m c'] W fun e w' => e = .returned (.bool v) ∧ ∃ n, W.drewN n = w' := by
  subst hl
  subst hr
  subst hv
  exact numbers_any B A A' l r c c' W hs hs' (by unfold maxLen; omega) (by unfold maxLen; omega)
theorem below_drewN {w w' : World} (h : ∃ n, w.drewN n = w') : Below w.heap.size w w' := by
  obtain ⟨n, rfl⟩ := h
  exact blw_drewN (Below.refl _ _) n

set_option maxRecDepth 100000 in
set_option maxHeartbeats 1000000 in
theorem awake_any (w : World) : Calls Try.prog 7 #[] w fun e w' => e = .returned (.bool true) ∧ Below w.heap.size w w' := by
  have h0 := AW.start w
  go_enter Try.func7, Try.ntmps7
  go_wp2_with fail
  generalize (((w.alloc (.cells #[.slice none 0 0, .int .i64 3, .int .i64 0, .int .i64 0, .int .i64 0] 44)).alloc (.cells #[.int .i64 0, .int .i64 1, .slice (some ⟨w.heap.size, 0, none⟩) 1 1] 24)).alloc (.cells #[.int .i64 0, .int .i64 0, .slice (some ⟨w.heap.size, 0, none⟩) 1 1] 24)) = W0 at *
  refine (check_at (v := 0) 1 1 h0.blks (Nat.le_refl _) rfl (by decide) (by decide) (by decide)).mono ?_
  rintro e W1 ⟨rfl, hb⟩
  have h1 := h0.next hb
  clear hb h0
  have f0 := h1.f.cell 0; have f1 := h1.f.cell 1; have f2 := h1.f.cell 2; have g0 := h1.g.cell 0; have g1 := h1.g.cell 1; have g2 := h1.g.cell 2
  simp only [List.getElem?_toArray, List.getElem?_cons_zero, List.getElem?_cons_succ] at f0 f1 f2 g0 g1 g2
  have H1 := Lib.hid h1
  clear h1
  go_wp2_with fail
  refine (check_at (v := 9) 1 1 H1.out.blks (Nat.le_refl _) rfl (by decide) (by decide) (by decide)).mono ?_
  rintro e W2 ⟨rfl, hb⟩
  have h2 := H1.out.next hb
  clear hb H1 f0 f1 f2 g0 g1 g2
  have f0 := h2.f.cell 0; have f1 := h2.f.cell 1; have f2 := h2.f.cell 2; have g0 := h2.g.cell 0; have g1 := h2.g.cell 1; have g2 := h2.g.cell 2
  simp only [List.getElem?_toArray, List.getElem?_cons_zero, List.getElem?_cons_succ] at f0 f1 f2 g0 g1 g2
  have H2 := Lib.hid h2
  clear h2
  go_wp2_with fail
  refine (check_at (v := 14) (B := 0) (bs := []) 0 0 BlksAt.nil (Nat.zero_le _) rfl (by decide) (by decide) (by decide)).mono ?_
  rintro e W3 ⟨rfl, hb⟩
  have h3 := H2.out.next hb
  clear hb H2 f0 f1 f2 g0 g1 g2
  have f0 := h3.f.cell 0; have f1 := h3.f.cell 1; have f2 := h3.f.cell 2; have g0 := h3.g.cell 0; have g1 := h3.g.cell 1; have g2 := h3.g.cell 2
  simp only [List.getElem?_toArray, List.getElem?_cons_zero, List.getElem?_cons_succ] at f0 f1 f2 g0 g1 g2
  have H3 := Lib.hid h3
  clear h3
  go_wp2_with fail
  refine (instr_at ⟨18, 0, 0, 0, 0⟩ 9 8 (by decide)).mono ?_
  rintro e W4 ⟨rfl, hb⟩
  have h4 := H3.out.next hb
  clear hb H3 f0 f1 f2 g0 g1 g2
  have f0 := h4.f.cell 0; have f1 := h4.f.cell 1; have f2 := h4.f.cell 2; have g0 := h4.g.cell 0; have g1 := h4.g.cell 1; have g2 := h4.g.cell 2
  simp only [List.getElem?_toArray, List.getElem?_cons_zero, List.getElem?_cons_succ] at f0 f1 f2 g0 g1 g2
  have H4 := Lib.hid h4
  clear h4
  go_wp2_with fail
  refine (term_at ⟨0, 0, 0, 0⟩ 9 9 16 (by decide)).mono ?_
  rintro e W5 ⟨rfl, hb⟩
  have h5 := H4.out.next hb
  clear hb H4 f0 f1 f2 g0 g1 g2
  have f0 := h5.f.cell 0; have f1 := h5.f.cell 1; have f2 := h5.f.cell 2; have g0 := h5.g.cell 0; have g1 := h5.g.cell 1; have g2 := h5.g.cell 2
  simp only [List.getElem?_toArray, List.getElem?_cons_zero, List.getElem?_cons_succ] at f0 f1 f2 g0 g1 g2
  have H5 := Lib.hid h5
  clear h5
  go_wp2_with fail
  refine (succ_at ⟨2, 0, 3, 3⟩ [3, 3] 2 (by decide) rfl).mono ?_
  rintro e W6 ⟨A6, c6, rfl, hs6, hb⟩
  have h6 := H5.out.next hb
  clear hb H5 f0 f1 f2 g0 g1 g2
  have H6 := Lib.hid h6
  have HS := Lib.hid hs6
  clear h6 hs6
  go_wp2_with fail
  refine (numbers_at (W6.heap.size + 1) [3, 3] [3, 3] 2 2 _ _ true rfl rfl ?s1 ?s2 (by decide) (by decide) (sameI_self _)).mono ?_
  case s1 => exact (HS.out.alloc (Nat.le_refl _) _).more (Nat.le_succ _)
  case s2 => exact sees_new' rfl _ _ rfl
  rintro e W7 ⟨rfl, hb⟩
  have h7 := (H6.out.next ((Below.refl _ _).alloc (Nat.le_refl _) _)).next (below_drewN hb)
  clear hb H6 HS
  have f0 := h7.f.cell 0; have f1 := h7.f.cell 1; have f2 := h7.f.cell 2; have g0 := h7.g.cell 0; have g1 := h7.g.cell 1; have g2 := h7.g.cell 2
  simp only [List.getElem?_toArray, List.getElem?_cons_zero, List.getElem?_cons_succ] at f0 f1 f2 g0 g1 g2
  have H7 := Lib.hid h7
  clear h7
  go_wp2_with fail
  refine (code_at 1 1 0 H7.out.blks (Nat.le_refl _) rfl (by decide) (by decide) (by decide)).mono ?_
  rintro e W8 ⟨rfl, hb⟩
  have H8 := Lib.hid (H7.out.next hb)
  clear hb H7 f0 f1 f2 g0 g1 g2
  go_wp2
  go_ret
  exact ⟨rfl, H8.out.below⟩

end Go.Proofs.Ytddcbdmmjjpbhaa
