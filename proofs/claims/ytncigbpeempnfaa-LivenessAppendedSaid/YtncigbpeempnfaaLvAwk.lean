/-
  The fixed examples that every statement of layer 23 checks first: they come out true.
-/
import Derived.Test.YtncigbpeempnfaaLvFn
namespace Go.Proofs.Ytncigbpeempnfaa
open Go.RowKit
set_option linter.unusedVariables false

def exB23 : Blk := ⟨[⟨5, 1, 1, 0, 0⟩], ⟨3, 1, 0, 0⟩⟩

def exC23 : Blk := ⟨[⟨1, 0, 0, 0, 0⟩], ⟨1, 0, 1, 0⟩⟩

theorem exB_use : useL exB23 3 = [0, 1] := by decide +kernel

theorem exB_def : defL exB23 3 = [1] := by decide +kernel

theorem ex_in : fL23 (inL [exC23, exB23] 3) 2 = [[1], [0, 1]] := by decide +kernel

theorem ex_out : fL23 (outL [exC23, exB23] 3) 2 = [[0, 1], []] := by decide +kernel

theorem ex_ok : OkF 3 [exC23, exB23] := by
  refine ⟨by decide, fun b hb i hi => ?_, fun b hb => ?_⟩
  · simp only [List.mem_cons, List.not_mem_nil, or_false] at hb
    rcases hb with rfl | rfl
    · simp only [exC23, List.mem_cons, List.not_mem_nil, or_false] at hi
      subst hi
      exact ⟨by unfold InI; decide, by decide, by decide, .inr (by decide)⟩
    · simp only [exB23, List.mem_cons, List.not_mem_nil, or_false] at hi
      subst hi
      exact ⟨by unfold InI; decide, by decide, by decide, .inr (by decide)⟩
  · simp only [List.mem_cons, List.not_mem_nil, or_false] at hb
    rcases hb with rfl | rfl
    · exact .inl ⟨rfl, by decide, by decide⟩
    · exact .inr (.inr ⟨rfl, by decide, by decide⟩)

theorem ex_fn : FnOk 3 [exC23, exB23] := fnOk ex_ok (fun b hb i hi => by
  simp only [List.mem_cons, List.not_mem_nil, or_false] at hb
  rcases hb with rfl | rfl
  · simp only [exC23, List.mem_cons, List.not_mem_nil, or_false] at hi; subst hi; decide
  · simp only [exB23, List.mem_cons, List.not_mem_nil, or_false] at hi; subst hi; decide) (by decide) (by decide) (by decide)

/-- What the examples lay into memory. -/
structure AW23 (z : Nat) (w W : World) : Prop where
  below : Below w.heap.size w W
  i : Row W z 56 #[.int .i64 5, .int .i64 1, .int .i64 1, .int .i64 0, .int .i64 0]
  b : Row W (z + 1) 34 #[.slice (some ⟨z, 0, none⟩) 1 1, .int .i64 3, .int .i64 1, .int .i64 0, .int .i64 0]
  j : Row W (z + 1 + 1) 56 #[.int .i64 1, .int .i64 0, .int .i64 0, .int .i64 0, .int .i64 0]
  l : Row W (z + 1 + 1 + 1) 34 #[.slice (some ⟨z + 1 + 1, 0, none⟩) 1 1, .int .i64 1, .int .i64 0, .int .i64 1, .int .i64 0, .slice (some ⟨z, 0, none⟩) 1 1, .int .i64 3, .int .i64 1, .int .i64 0, .int .i64 0]
  f : Row W (z + 1 + 1 + 1 + 1) 24 #[.int .i64 0, .int .i64 3, .slice (some ⟨z + 1 + 1 + 1, 0, none⟩) 2 2]

theorem AW23.next {z : Nat} {w W W' : World} (h : AW23 z w W) (hb : Below W.heap.size W W') : AW23 z w W' :=
  ⟨h.below.trans (hb.mono h.below.size), h.i.below hb h.i.lt, h.b.below hb h.b.lt, h.j.below hb h.j.lt, h.l.below hb h.l.lt, h.f.below hb h.f.lt⟩

theorem AW23.alloc {z : Nat} {w W : World} (h : AW23 z w W) (o : Obj) : AW23 z w (W.alloc o) := h.next ((Below.refl _ _).alloc (Nat.le_refl _) o)

theorem AW23.start (w : World) : AW23 w.heap.size w (((((w.alloc (.cells #[.int .i64 5, .int .i64 1, .int .i64 1, .int .i64 0, .int .i64 0] 56)).alloc (.cells #[.slice (some ⟨w.heap.size, 0, none⟩) 1 1, .int .i64 3, .int .i64 1, .int .i64 0, .int .i64 0] 34)).alloc (.cells #[.int .i64 1, .int .i64 0, .int .i64 0, .int .i64 0, .int .i64 0] 56)).alloc (.cells #[.slice (some ⟨w.heap.size + 1 + 1, 0, none⟩) 1 1, .int .i64 1, .int .i64 0, .int .i64 1, .int .i64 0, .slice (some ⟨w.heap.size, 0, none⟩) 1 1, .int .i64 3, .int .i64 1, .int .i64 0, .int .i64 0] 34)).alloc (.cells #[.int .i64 0, .int .i64 3, .slice (some ⟨w.heap.size + 1 + 1 + 1, 0, none⟩) 2 2] 24)) where
  below := (((((Below.refl w.heap.size w).alloc (Nat.le_refl _) _).alloc (by simp) _).alloc (by simp; omega) _).alloc (by simp; omega) _).alloc (by simp; omega) _
  i := ((((Row.new w _ _).alloc _).alloc _).alloc _).alloc _
  b := (((Row.new' (p := w.heap.size + 1) (by simp) _ _).alloc _).alloc _).alloc _
  j := ((Row.new' (p := w.heap.size + 1 + 1) (by simp) _ _).alloc _).alloc _
  l := (Row.new' (p := w.heap.size + 1 + 1 + 1) (by simp) _ _).alloc _
  f := Row.new' (p := w.heap.size + 1 + 1 + 1 + 1) (by simp) _ _

theorem one_at {W : World} {B z : Nat} {a b c d e : Int} (h : Row W z 56 #[.int .i64 a, .int .i64 b, .int .i64 c, .int .i64 d, .int .i64 e]) (hB : z < B) : InsAt W B (some ⟨z, 0, none⟩) [⟨a, b, c, d, e⟩] := fun _ => by
  refine ⟨z, 0, rfl, hB, fun i x hx => ?_⟩
  have hi : i = 0 := by
    have := (List.getElem?_eq_some_iff.1 hx).1
    simpa using this
  subst hi
  simp only [List.getElem?_cons_zero, Option.some.injEq] at hx
  subst hx
  exact ⟨h.cell 0, h.cell 1, h.cell 2, h.cell 3, h.cell 4⟩

theorem AW23.blks {z : Nat} {w W : World} (h : AW23 z w W) : BlksAt W W.heap.size (some ⟨z + 1 + 1 + 1, 0, none⟩) [exC23, exB23] := fun _ => by
  refine ⟨z + 1 + 1 + 1, 0, rfl, h.l.lt, fun i x hx => ?_⟩
  have hi := (List.getElem?_eq_some_iff.1 hx).1
  simp only [List.length_cons, List.length_nil] at hi
  rcases (by omega : i = 0 ∨ i = 1) with rfl | rfl
  · simp only [List.getElem?_cons_zero, Option.some.injEq] at hx
    subst hx
    exact ⟨⟨some ⟨z + 1 + 1, 0, none⟩, 1, h.l.cell 0, Nat.le_refl _, by decide, one_at h.j h.j.lt⟩, h.l.cell 1, h.l.cell 2, h.l.cell 3, h.l.cell 4⟩
  · simp only [List.getElem?_cons_succ, List.getElem?_cons_zero, Option.some.injEq] at hx
    subst hx
    exact ⟨⟨some ⟨z, 0, none⟩, 1, h.l.cell 5, Nat.le_refl _, by decide, one_at h.i h.i.lt⟩, h.l.cell 6, h.l.cell 7, h.l.cell 8, h.l.cell 9⟩

/-- Two lists of integers laid into memory. -/
theorem ii_two {W : World} {B z : Nat} {A A' : Option Addr} {x y : List Int} {c c' : Nat} (h : Row W z 28 #[.slice A x.length c, .slice A' y.length c']) (hz : z < B) (hx : Sees W B A (ints x)) (hy : Sees W B A' (ints y)) (hm : x.length ≤ maxLen) (hm' : y.length ≤ maxLen) : SeesII W B (some ⟨z, 0, none⟩) [x, y] := fun _ => by
  refine ⟨z, 0, rfl, hz, fun i l hl => ?_⟩
  have hi := (List.getElem?_eq_some_iff.1 hl).1
  simp only [List.length_cons, List.length_nil] at hi
  rcases (by omega : i = 0 ∨ i = 1) with rfl | rfl
  · simp only [List.getElem?_cons_zero, Option.some.injEq] at hl
    subst hl
    exact ⟨A, c, h.cell 0, hm, hx⟩
  · simp only [List.getElem?_cons_succ, List.getElem?_cons_zero, Option.some.injEq] at hl
    subst hl
    exact ⟨A', c', h.cell 1, hm', hy⟩

theorem lit_two (W : World) (x y : List Int) (cx cy : Array Value) (n m : Nat) (ex : cx.toList = ints x) (ey : cy.toList = ints y) (hx : x.length = n) (hy : y.length = m) (hn : n ≤ 1000) (hm : m ≤ 1000) :
    let W' := ((W.alloc (.cells cx 3)).alloc (.cells cy 3)).alloc (.cells #[.slice (some ⟨W.heap.size, 0, none⟩) n n, .slice (some ⟨W.heap.size + 1, 0, none⟩) m m] 28)
    SeesII W' W'.heap.size (some ⟨W.heap.size + 1 + 1, 0, none⟩) [x, y] ∧ Below W.heap.size W W' := by
  intro W'
  subst hx hy
  have hb : Below W.heap.size W W' := (((Below.refl _ _).alloc (Nat.le_refl _) _).alloc (by simp) _).alloc (by simp; omega) _
  have h1 : Sees W' W'.heap.size (some ⟨W.heap.size, 0, none⟩) (ints x) := by
    have h := sees_new W cx 3
    rw [ex] at h
    have h2 := (h.alloc (by simp) (.cells cy 3)).alloc (by simp) (.cells #[.slice (some ⟨W.heap.size, 0, none⟩) x.length x.length, .slice (some ⟨W.heap.size + 1, 0, none⟩) y.length y.length] 28)
    exact h2.more (by show _ ≤ W'.heap.size; simp [W'])
  have h3 : Sees W' W'.heap.size (some ⟨W.heap.size + 1, 0, none⟩) (ints y) := by
    have h := sees_new (W.alloc (.cells cx 3)) cy 3
    rw [ey, show (W.alloc (.cells cx 3)).heap.size = W.heap.size + 1 by simp] at h
    have h2 := h.alloc (by simp) (.cells #[.slice (some ⟨W.heap.size, 0, none⟩) x.length x.length, .slice (some ⟨W.heap.size + 1, 0, none⟩) y.length y.length] 28)
    exact h2.more (by show _ ≤ W'.heap.size; simp [W'])
  refine ⟨ii_two (Row.new' (p := W.heap.size + 1 + 1) (by simp) _ _) (by show _ < W'.heap.size; simp [W']) h1 h3 (by unfold maxLen; omega) (by unfold maxLen; omega), hb⟩

theorem uses_at23 {W : World} {A : Option Addr} (l : List Int) (n : Nat) (hs : InsAt W W.heap.size A exB23.code) (hl : useL exB23 3 = l) (hn : l.length = n) :
    Calls Try.prog 14 #[.agg #[.slice A 1 1, .int .i64 3, .int .i64 1, .int .i64 0, .int .i64 0]] W fun e w' => ∃ A' c', e = .returned (.slice A' n c') ∧ Sees w' w'.heap.size A' (ints l) ∧ Below W.heap.size W w' := by
  refine (uses_any A exB23 1 3 W hs (by decide) (by decide) (ex_fn.ok _ (by simp))).mono ?_
  rintro e w' ⟨A', c', rfl, h⟩
  rw [hl] at h
  rw [hl, hn]
  exact ⟨A', c', rfl, h.see.2, h.blw⟩

theorem defs_at23 {W : World} {A : Option Addr} (l : List Int) (n : Nat) (hs : InsAt W W.heap.size A exB23.code) (hl : defL exB23 3 = l) (hn : l.length = n) :
    Calls Try.prog 15 #[.agg #[.slice A 1 1, .int .i64 3, .int .i64 1, .int .i64 0, .int .i64 0]] W fun e w' => ∃ A' c', e = .returned (.slice A' n c') ∧ Sees w' w'.heap.size A' (ints l) ∧ Below W.heap.size W w' := by
  refine (defs_any A exB23 1 3 W hs (by decide) (by decide) (ex_fn.ok _ (by simp))).mono ?_
  rintro e w' ⟨A', c', rfl, h⟩
  rw [hl] at h
  rw [hl, hn]
  exact ⟨A', c', rfl, h.see.2, h.blw⟩

theorem in_at23 {W : World} {A : Option Addr} (xs : List (List Int)) (hs : BlksAt W W.heap.size A [exC23, exB23]) (hl : fL23 (inL [exC23, exB23] 3) 2 = xs) :
    Calls Try.prog 17 #[.agg #[.int .i64 0, .int .i64 3, .slice A 2 2]] W fun e w' => ∃ A', e = .returned (.slice A' 2 2) ∧ SeesII w' w'.heap.size A' xs ∧ Below W.heap.size W w' := by
  subst hl
  exact (pin_any 0 3 A [exC23, exB23] 2 3 W hs ex_fn).mono fun e w' h => h.see

theorem out_at23 {W : World} {A : Option Addr} (xs : List (List Int)) (hs : BlksAt W W.heap.size A [exC23, exB23]) (hl : fL23 (outL [exC23, exB23] 3) 2 = xs) :
    Calls Try.prog 19 #[.agg #[.int .i64 0, .int .i64 3, .slice A 2 2]] W fun e w' => ∃ A', e = .returned (.slice A' 2 2) ∧ SeesII w' w'.heap.size A' xs ∧ Below W.heap.size W w' := by
  subst hl
  exact (pout_any 0 3 A [exC23, exB23] 2 3 W hs ex_fn).mono fun e w' h => h.see

set_option maxRecDepth 100000 in
set_option maxHeartbeats 4000000 in
theorem awake23_any (w : World) : Calls Try.prog 8 #[] w fun e w' => e = .returned (.bool true) ∧ Below w.heap.size w w' := by
  have H0 := Lib.hid (AW23.start w)
  go_enter Try.func8, Try.ntmps8
  go_upto_region 3 with fail
  generalize (((((w.alloc (.cells #[.int .i64 5, .int .i64 1, .int .i64 1, .int .i64 0, .int .i64 0] 56)).alloc (.cells #[.slice (some ⟨w.heap.size, 0, none⟩) 1 1, .int .i64 3, .int .i64 1, .int .i64 0, .int .i64 0] 34)).alloc (.cells #[.int .i64 1, .int .i64 0, .int .i64 0, .int .i64 0, .int .i64 0] 56)).alloc (.cells #[.slice (some ⟨w.heap.size + 1 + 1, 0, none⟩) 1 1, .int .i64 1, .int .i64 0, .int .i64 1, .int .i64 0, .slice (some ⟨w.heap.size, 0, none⟩) 1 1, .int .i64 3, .int .i64 1, .int .i64 0, .int .i64 0] 34)).alloc (.cells #[.int .i64 0, .int .i64 3, .slice (some ⟨w.heap.size + 1 + 1 + 1, 0, none⟩) 2 2] 24)) = W0 at *
  obtain ⟨z, hz⟩ : ∃ z, w.heap.size = z := ⟨_, rfl⟩
  rw [hz] at H0
  rw [hz]
  have HZ := Lib.hid hz
  clear hz
  have y0 := H0.out.b.k0; have y1 := H0.out.b.k1; have y2 := H0.out.b.k2; have y3 := H0.out.b.k3; have y4 := H0.out.b.k4
  go_wp2_with fail
  refine (uses_at23 [0, 1] 2 (one_at H0.out.i H0.out.i.lt) exB_use rfl).mono ?_
  rintro e W1 ⟨A1, c1, rfl, hs1, hb1⟩
  have H1 := Lib.hid (H0.out.next hb1)
  have HS1 := Lib.hid hs1
  clear H0 hs1 hb1 y0 y1 y2 y3 y4
  go_wp2_with fail
  refine (num_at (W1.heap.size + 1) [0, 1] [0, 1] 2 2 c1 2 true rfl rfl ((HS1.out.alloc (Nat.le_refl _) _).more (Nat.le_succ _)) (sees_new W1 #[.int .i64 0, .int .i64 1] 3) (by decide) (by decide) (by decide)).mono ?_
  rintro e W2 ⟨rfl, hd⟩
  have H2 := Lib.hid ((H1.out.alloc (.cells #[.int .i64 0, .int .i64 1] 3)).next (blw_drewN' hd))
  clear hd H1 HS1
  have y0 := H2.out.b.k0; have y1 := H2.out.b.k1; have y2 := H2.out.b.k2; have y3 := H2.out.b.k3; have y4 := H2.out.b.k4
  go_wp2_with fail
  refine (defs_at23 [1] 1 (one_at H2.out.i H2.out.i.lt) exB_def rfl).mono ?_
  rintro e W3 ⟨A3, c3, rfl, hs3, hb3⟩
  have H3 := Lib.hid (H2.out.next hb3)
  have HS3 := Lib.hid hs3
  clear H2 hs3 hb3 y0 y1 y2 y3 y4
  go_wp2_with fail
  refine (num_at (W3.heap.size + 1) [1] [1] 1 1 c3 1 true rfl rfl ((HS3.out.alloc (Nat.le_refl _) _).more (Nat.le_succ _)) (sees_new W3 #[.int .i64 1] 3) (by decide) (by decide) (by decide)).mono ?_
  rintro e W4 ⟨rfl, hd⟩
  have H4 := Lib.hid ((H3.out.alloc (.cells #[.int .i64 1] 3)).next (blw_drewN' hd))
  clear hd H3 HS3
  have f0 := H4.out.f.k0; have f1 := H4.out.f.k1; have f2 := H4.out.f.k2
  go_wp2_with fail
  refine (in_at23 [[1], [0, 1]] H4.out.blks ex_in).mono ?_
  rintro e W5 ⟨A5, rfl, hs5, hb5⟩
  have H5 := Lib.hid (H4.out.next hb5)
  have HS5 := Lib.hid hs5
  clear H4 hs5 hb5 f0 f1 f2
  have L5 := lit_two W5 [1] [0, 1] #[.int .i64 1] #[.int .i64 0, .int .i64 1] 1 2 rfl rfl rfl rfl (by decide) (by decide)
  have HL5 := Lib.hid L5
  clear L5
  go_wp2_with fail
  refine (same_at23 _ [[1], [0, 1]] [[1], [0, 1]] 2 2 2 2 true rfl rfl ((HS5.out.below HL5.out.2).more HL5.out.2.size) HL5.out.1 (by decide) (by decide) (by decide)).mono ?_
  rintro e W6 ⟨rfl, hd⟩
  have H6 := Lib.hid ((H5.out.next HL5.out.2).next (blw_drewN' hd))
  clear hd H5 HS5 HL5
  have f0 := H6.out.f.k0; have f1 := H6.out.f.k1; have f2 := H6.out.f.k2
  go_wp2_with fail
  refine (out_at23 [[0, 1], []] H6.out.blks ex_out).mono ?_
  rintro e W7 ⟨A7, rfl, hs7, hb7⟩
  have H7 := Lib.hid (H6.out.next hb7)
  have HS7 := Lib.hid hs7
  clear H6 hs7 hb7 f0 f1 f2
  have L7 := lit_two W7 [0, 1] [] #[.int .i64 0, .int .i64 1] #[] 2 0 rfl rfl rfl rfl (by decide) (by decide)
  have HL7 := Lib.hid L7
  clear L7
  go_wp2_with fail
  refine (same_at23 _ [[0, 1], []] [[0, 1], []] 2 2 2 2 true rfl rfl ((HS7.out.below HL7.out.2).more HL7.out.2.size) HL7.out.1 (by decide) (by decide) (by decide)).mono ?_
  rintro e W8 ⟨rfl, hd⟩
  have H8 := Lib.hid ((H7.out.next HL7.out.2).next (blw_drewN' hd))
  clear hd H7 HS7 HL7
  go_wp2_with fail
  go_ret
  exact ⟨rfl, H8.out.below⟩

end Go.Proofs.Ytncigbpeempnfaa
