/-
  The walk of the statement on terminators.
-/
import Derived.Test.YtimmnnadoeagfaaAlAwake
import Derived.Test.YtimmnnadoeagfaaAlIn
namespace Go.Proofs.Ytimmnnadoeagfaa
open Go.RowKit
set_option linter.unusedVariables false

theorem tmP_same (a : Tm) (n : Int) : tmP a { a with a := n } = true := by simp [tmP]
theorem tmP_left (a b : Tm) (n : Int) : tmP { a with a := n } b = tmP a b := rfl
theorem tmP_symm (a b : Tm) : tmP b a = tmP a b := by
  unfold tmP
  rw [BEq.comm (a := b.kind), BEq.comm (a := b.to), BEq.comm (a := b.el)]
theorem tmP_trans {a b c : Tm} (h1 : tmP a b = true) (h2 : tmP b c = true) : tmP a c = true := by
  simp only [tmP, Bool.and_eq_true, beq_iff_eq] at h1 h2 ⊢
  omega

/-- What the walk carries: the boxes. -/
structure TK (w : World) (a b c d : Tm) (p q r s : Nat) (W : World) : Prop where
  blw : Below w.heap.size w W
  a : Row W p 30 #[.int .i64 a.kind, .int .i64 a.a, .int .i64 a.to, .int .i64 a.el]
  b : Row W q 30 #[.int .i64 b.kind, .int .i64 b.a, .int .i64 b.to, .int .i64 b.el]
  c : Row W r 30 #[.int .i64 c.kind, .int .i64 c.a, .int .i64 c.to, .int .i64 c.el]
  d : Row W s 30 #[.int .i64 d.kind, .int .i64 d.a, .int .i64 d.to, .int .i64 d.el]
theorem TK.below {w W W' : World} {a b c d : Tm} {p q r s : Nat} (h : TK w a b c d p q r s W) (hb : Below W.heap.size W W') : TK w a b c d p q r s W' :=
  ⟨h.blw.trans (hb.mono h.blw.size), h.a.below hb h.a.lt, h.b.below hb h.b.lt, h.c.below hb h.c.lt, h.d.below hb h.d.lt⟩

set_option maxRecDepth 100000 in
set_option maxHeartbeats 16000000 in
theorem AlignTerms_walk (a0 a1 a2 : Array Value) (a3 : Int) (w : World) (w0 : IsTm w a0) (w1 : IsTm w a1) (w2 : IsTm w a2) (w3 : (Lit.int .i64 a3).wf = true) :
    Calls Try.prog 7 #[.agg a0, .agg a1, .agg a2, .int .i64 a3] w fun e w' => e = .returned (.bool true) ∧ Below w.heap.size w w' := by
  obtain ⟨a, rfl, _⟩ := w0
  obtain ⟨b, rfl, _⟩ := w1
  obtain ⟨c, rfl, _⟩ := w2
  have mixed : Try.prog.follows .mixedOrders = true := by kernel_rfl
  have AW := Lib.hid fun W => awake_any W
  clear w3
  have HB0 := Lib.hid ((((Below.refl w.heap.size w).alloc (Nat.le_refl _) (.cells #[.int .i64 a.kind, .int .i64 a.a, .int .i64 a.to, .int .i64 a.el] 30)).alloc (by simp) (.cells #[.int .i64 b.kind, .int .i64 b.a, .int .i64 b.to, .int .i64 b.el] 30)).alloc (by simp; omega) (.cells #[.int .i64 c.kind, .int .i64 c.a, .int .i64 c.to, .int .i64 c.el] 30))
  have hA := ((Row.new w 30 #[.int .i64 a.kind, .int .i64 a.a, .int .i64 a.to, .int .i64 a.el]).alloc (.cells #[.int .i64 b.kind, .int .i64 b.a, .int .i64 b.to, .int .i64 b.el] 30)).alloc (.cells #[.int .i64 c.kind, .int .i64 c.a, .int .i64 c.to, .int .i64 c.el] 30)
  have hB := (Row.new (w.alloc (.cells #[.int .i64 a.kind, .int .i64 a.a, .int .i64 a.to, .int .i64 a.el] 30)) 30 #[.int .i64 b.kind, .int .i64 b.a, .int .i64 b.to, .int .i64 b.el]).alloc (.cells #[.int .i64 c.kind, .int .i64 c.a, .int .i64 c.to, .int .i64 c.el] 30)
  have hC := Row.new ((w.alloc (.cells #[.int .i64 a.kind, .int .i64 a.a, .int .i64 a.to, .int .i64 a.el] 30)).alloc (.cells #[.int .i64 b.kind, .int .i64 b.a, .int .i64 b.to, .int .i64 b.el] 30)) 30 #[.int .i64 c.kind, .int .i64 c.a, .int .i64 c.to, .int .i64 c.el]
  rw [show (w.alloc (.cells #[.int .i64 a.kind, .int .i64 a.a, .int .i64 a.to, .int .i64 a.el] 30)).heap.size = w.heap.size + 1 by simp] at hB
  rw [show ((w.alloc (.cells #[.int .i64 a.kind, .int .i64 a.a, .int .i64 a.to, .int .i64 a.el] 30)).alloc (.cells #[.int .i64 b.kind, .int .i64 b.a, .int .i64 b.to, .int .i64 b.el] 30)).heap.size = w.heap.size + 1 + 1 by simp] at hC
  have HA := Lib.hid hA
  have HB := Lib.hid hB
  have HC := Lib.hid hC
  clear hA hB hC
  go_enter Try.func7, Try.ntmps7
  go_upto_region 1 with fail
  generalize (((w.alloc (.cells #[.int .i64 a.kind, .int .i64 a.a, .int .i64 a.to, .int .i64 a.el] 30)).alloc (.cells #[.int .i64 b.kind, .int .i64 b.a, .int .i64 b.to, .int .i64 b.el] 30)).alloc (.cells #[.int .i64 c.kind, .int .i64 c.a, .int .i64 c.to, .int .i64 c.el] 30)) = W0 at *
  go_wp2_with fail
  refine (AW.out _).mono ?_
  rintro e W1 ⟨rfl, hb⟩
  have HD1 := Lib.hid ((HB0.out.trans (hb.mono HB0.out.size)).alloc (HB0.out.trans (hb.mono HB0.out.size)).size (.cells #[.int .i64 a.kind, .int .i64 a3, .int .i64 a.to, .int .i64 a.el] 30))
  have HA1 := Lib.hid (HA.out.below hb HA.out.lt)
  have hA1 := HA1.out
  have f0 := hA1.cell 0; have f1 := hA1.cell 1; have f2 := hA1.cell 2; have f3 := hA1.cell 3
  simp only [List.getElem?_toArray, List.getElem?_cons_zero, List.getElem?_cons_succ] at f0 f1 f2 f3
  clear hA1
  go_upto_region 5 with fail
  have HK : Hid (TK w a b c { a with a := a3 } w.heap.size (w.heap.size + 1) (w.heap.size + 1 + 1) W1.heap.size (W1.alloc (.cells #[.int .i64 a.kind, .int .i64 a3, .int .i64 a.to, .int .i64 a.el] 30))) :=
    ⟨HD1.out, (HA.out.below hb HA.out.lt).alloc _, (HB.out.below hb HB.out.lt).alloc _, (HC.out.below hb HC.out.lt).alloc _, Row.new W1 30 #[.int .i64 a.kind, .int .i64 a3, .int .i64 a.to, .int .i64 a.el]⟩
  clear f0 f1 f2 f3 HA1 HD1 hb HA HB HC HB0
  generalize (W1.alloc (.cells #[.int .i64 a.kind, .int .i64 a3, .int .i64 a.to, .int .i64 a.el] 30)) = W2 at *
  generalize W1.heap.size = dd at *
  have E1 := Lib.hid (tmP_same a a3)
  have E3 := Lib.hid (tmP_symm a b)
  have E4 := Lib.hid (tmP_left a b a3)
  have ET := Lib.hid (fun (h1 : tmP a b = true) (h2 : tmP b c = true) => tmP_trans h1 h2)
  have C1 : Hid (∀ n os, Calls Try.prog 15 #[.agg #[.int .i64 a.kind, .int .i64 a.a, .int .i64 a.to, .int .i64 a.el], .agg #[.int .i64 a.kind, .int .i64 a3, .int .i64 a.to, .int .i64 a.el]] (Go.Sort.grow (W2.drewN n) os) fun e w' => e = .returned (.bool (tmP a { a with a := a3 })) ∧ ∃ q os', w' = Go.Sort.grow ((Go.Sort.grow (W2.drewN n) os).drewN q) os') := fun n os => terms_any a { a with a := a3 } _
  have C2 : Hid (∀ n os, Calls Try.prog 15 #[.agg #[.int .i64 a.kind, .int .i64 a.a, .int .i64 a.to, .int .i64 a.el], .agg #[.int .i64 b.kind, .int .i64 b.a, .int .i64 b.to, .int .i64 b.el]] (Go.Sort.grow (W2.drewN n) os) fun e w' => e = .returned (.bool (tmP a b)) ∧ ∃ q os', w' = Go.Sort.grow ((Go.Sort.grow (W2.drewN n) os).drewN q) os') := fun n os => terms_any a b _
  have C3 : Hid (∀ n os, Calls Try.prog 15 #[.agg #[.int .i64 b.kind, .int .i64 b.a, .int .i64 b.to, .int .i64 b.el], .agg #[.int .i64 a.kind, .int .i64 a.a, .int .i64 a.to, .int .i64 a.el]] (Go.Sort.grow (W2.drewN n) os) fun e w' => e = .returned (.bool (tmP b a)) ∧ ∃ q os', w' = Go.Sort.grow ((Go.Sort.grow (W2.drewN n) os).drewN q) os') := fun n os => terms_any b a _
  have C4 : Hid (∀ n os, Calls Try.prog 15 #[.agg #[.int .i64 a.kind, .int .i64 a3, .int .i64 a.to, .int .i64 a.el], .agg #[.int .i64 b.kind, .int .i64 b.a, .int .i64 b.to, .int .i64 b.el]] (Go.Sort.grow (W2.drewN n) os) fun e w' => e = .returned (.bool (tmP { a with a := a3 } b)) ∧ ∃ q os', w' = Go.Sort.grow ((Go.Sort.grow (W2.drewN n) os).drewN q) os') := fun n os => terms_any { a with a := a3 } b _
  have D1 := Lib.hid fun W => terms_any a b W
  have D2 := Lib.hid fun W => terms_any b c W
  have D3 := Lib.hid fun W => terms_any a c W
  rw [E1.out] at C1
  rw [E3.out] at C3
  rw [E4.out] at C4
  have KT := Lib.hid fun W (h : Grew W2 W) => HK.out.below h.below
  have hA := HK.out.a
  have hB := HK.out.b
  have hD := HK.out.d
  have f0 := hA.cell 0; have f1 := hA.cell 1; have f2 := hA.cell 2; have f3 := hA.cell 3
  simp only [List.getElem?_toArray, List.getElem?_cons_zero, List.getElem?_cons_succ] at f0 f1 f2 f3
  have g0 := hB.cell 0; have g1 := hB.cell 1; have g2 := hB.cell 2; have g3 := hB.cell 3
  simp only [List.getElem?_toArray, List.getElem?_cons_zero, List.getElem?_cons_succ] at g0 g1 g2 g3
  have h0 := hD.cell 0; have h1 := hD.cell 1; have h2 := hD.cell 2; have h3 := hD.cell 3
  simp only [List.getElem?_toArray, List.getElem?_cons_zero, List.getElem?_cons_succ] at h0 h1 h2 h3
  have f0 := fun n os => Go.cell_grown (World.block_lt_of_cell? _ _ f0) f0 n os
  have f1 := fun n os => Go.cell_grown (World.block_lt_of_cell? _ _ f1) f1 n os
  have f2 := fun n os => Go.cell_grown (World.block_lt_of_cell? _ _ f2) f2 n os
  have f3 := fun n os => Go.cell_grown (World.block_lt_of_cell? _ _ f3) f3 n os
  have g0 := fun n os => Go.cell_grown (World.block_lt_of_cell? _ _ g0) g0 n os
  have g1 := fun n os => Go.cell_grown (World.block_lt_of_cell? _ _ g1) g1 n os
  have g2 := fun n os => Go.cell_grown (World.block_lt_of_cell? _ _ g2) g2 n os
  have g3 := fun n os => Go.cell_grown (World.block_lt_of_cell? _ _ g3) g3 n os
  have h0 := fun n os => Go.cell_grown (World.block_lt_of_cell? _ _ h0) h0 n os
  have h1 := fun n os => Go.cell_grown (World.block_lt_of_cell? _ _ h1) h1 n os
  have h2 := fun n os => Go.cell_grown (World.block_lt_of_cell? _ _ h2) h2 n os
  have h3 := fun n os => Go.cell_grown (World.block_lt_of_cell? _ _ h3) h3 n os
  clear hA hB hD E1 E3 E4 HK
  generalize tmP a b = bb at *
  generalize tmP b c = cc at *
  generalize tmP a c = ac at *
  obtain ⟨a0, a1, a2, a4⟩ := a
  obtain ⟨b0, b1, b2, b4⟩ := b
  obtain ⟨c0, c1, c2, c4⟩ := c
  dsimp only at *
  cases bb
  · clear ET
    go_wp2_with fail
    go_quiet_grown (first | (go_at_call 15; first | with_reducible refine Calls.grown_of (C1.out _ _) | with_reducible refine Calls.grown_of (C2.out _ _) | with_reducible refine Calls.grown_of (C3.out _ _) | with_reducible refine Calls.grown_of (C4.out _ _)))
    go_upto_region 7 with fail
    have HK5 := Lib.hid (KT.out _ ⟨nq, osq, rfl⟩)
    clear f0 f1 f2 f3 g0 g1 g2 g3 h0 h1 h2 h3 C1 C2 C3 C4 KT
    generalize Go.Sort.grow (W2.drewN nq) osq = W3 at *
    have hA := HK5.out.a
    have hB := HK5.out.b
    have f0 := hA.cell 0; have f1 := hA.cell 1; have f2 := hA.cell 2; have f3 := hA.cell 3
    simp only [List.getElem?_toArray, List.getElem?_cons_zero, List.getElem?_cons_succ] at f0 f1 f2 f3
    have g0 := hB.cell 0; have g1 := hB.cell 1; have g2 := hB.cell 2; have g3 := hB.cell 3
    simp only [List.getElem?_toArray, List.getElem?_cons_zero, List.getElem?_cons_succ] at g0 g1 g2 g3
    clear hA hB
    go_wp2_with fail
    refine (D1.out _).mono ?_
    rintro e W4 ⟨rfl, hG⟩
    have HK6 := Lib.hid (HK5.out.below hG.below)
    clear hG f0 f1 f2 f3 g0 g1 g2 g3 HK5
    go_wp2
    go_ret
    exact ⟨rfl, HK6.out.blw⟩
  · go_wp2_with fail
    go_quiet_grown (first | (go_at_call 15; first | with_reducible refine Calls.grown_of (C1.out _ _) | with_reducible refine Calls.grown_of (C2.out _ _) | with_reducible refine Calls.grown_of (C3.out _ _) | with_reducible refine Calls.grown_of (C4.out _ _)))
    go_upto_region 7 with fail
    have HK5 := Lib.hid (KT.out _ ⟨nq, osq, rfl⟩)
    clear f0 f1 f2 f3 g0 g1 g2 g3 h0 h1 h2 h3 C1 C2 C3 C4 KT
    generalize Go.Sort.grow (W2.drewN nq) osq = W3 at *
    have hA := HK5.out.a
    have hB := HK5.out.b
    have f0 := hA.cell 0; have f1 := hA.cell 1; have f2 := hA.cell 2; have f3 := hA.cell 3
    simp only [List.getElem?_toArray, List.getElem?_cons_zero, List.getElem?_cons_succ] at f0 f1 f2 f3
    have g0 := hB.cell 0; have g1 := hB.cell 1; have g2 := hB.cell 2; have g3 := hB.cell 3
    simp only [List.getElem?_toArray, List.getElem?_cons_zero, List.getElem?_cons_succ] at g0 g1 g2 g3
    clear hA hB
    go_wp2_with fail
    refine (D1.out _).mono ?_
    rintro e W4 ⟨rfl, hG⟩
    have HK6 := Lib.hid (HK5.out.below hG.below)
    clear hG f0 f1 f2 f3 g0 g1 g2 g3 HK5
    have hB := HK6.out.b
    have hC := HK6.out.c
    have f0 := hB.cell 0; have f1 := hB.cell 1; have f2 := hB.cell 2; have f3 := hB.cell 3
    simp only [List.getElem?_toArray, List.getElem?_cons_zero, List.getElem?_cons_succ] at f0 f1 f2 f3
    have g0 := hC.cell 0; have g1 := hC.cell 1; have g2 := hC.cell 2; have g3 := hC.cell 3
    simp only [List.getElem?_toArray, List.getElem?_cons_zero, List.getElem?_cons_succ] at g0 g1 g2 g3
    clear hB hC
    cases cc
    · go_wp2_with fail
      refine (D2.out _).mono ?_
      rintro e W5 ⟨rfl, hG⟩
      have HK7 := Lib.hid (HK6.out.below hG.below)
      clear hG f0 f1 f2 f3 g0 g1 g2 g3
      go_wp2
      go_ret
      exact ⟨rfl, HK7.out.blw⟩
    · have HAC := Lib.hid (ET.out (by first | rfl | trivial) (by first | rfl | trivial))
      rw [HAC.out] at D3
      clear ET
      go_wp2_with fail
      refine (D2.out _).mono ?_
      rintro e W5 ⟨rfl, hG⟩
      have HK7 := Lib.hid (HK6.out.below hG.below)
      have hA := HK7.out.a
      have hC := HK7.out.c
      clear hG f0 f1 f2 f3 g0 g1 g2 g3
      have f0 := hA.cell 0; have f1 := hA.cell 1; have f2 := hA.cell 2; have f3 := hA.cell 3
      simp only [List.getElem?_toArray, List.getElem?_cons_zero, List.getElem?_cons_succ] at f0 f1 f2 f3
      have g0 := hC.cell 0; have g1 := hC.cell 1; have g2 := hC.cell 2; have g3 := hC.cell 3
      simp only [List.getElem?_toArray, List.getElem?_cons_zero, List.getElem?_cons_succ] at g0 g1 g2 g3
      clear hA hC
      go_wp2_with fail
      refine (D3.out _).mono ?_
      rintro e W6 ⟨rfl, hG⟩
      have HK8 := Lib.hid (HK7.out.below hG.below)
      clear hG f0 f1 f2 f3 g0 g1 g2 g3
      go_wp2
      go_ret
      exact ⟨rfl, HK8.out.blw⟩

end Go.Proofs.Ytimmnnadoeagfaa
