/-
  The walk of the statement on implication.
-/
import Derived.Test.YtacendjemomkfaaEdAwk
namespace Go.Proofs.Ytacendjemomkfaa
open Go.RowKit
set_option linter.unusedVariables false

/-- Three lists of pairs. -/
structure T3 (w : World) (A : Option Addr) (n c : Nat) (a : List Pr) (B : Option Addr) (m d : Nat) (b : List Pr) (C : Option Addr) (k e : Nat) (g : List Pr) (W : World) : Prop where
  blw : Below w.heap.size w W
  a : LS W A n c a
  b : LS W B m d b
  g : LS W C k e g
theorem T3.next {w : World} {A : Option Addr} {n c : Nat} {a : List Pr} {B : Option Addr} {m d : Nat} {b : List Pr} {C : Option Addr} {k e : Nat} {g : List Pr} {W W' : World} (h : T3 w A n c a B m d b C k e g W) (hb : Below W.heap.size W W') : T3 w A n c a B m d b C k e g W' :=
  ⟨h.blw.trans (hb.mono h.blw.size), h.a.below hb, h.b.below hb, h.g.below hb⟩

theorem mis_trans {a b c : List Pr} (h : misP b a = none) (k : misP c b = none) : misP c a = none := misP_none.2 fun x hx => misP_none.1 h x (misP_none.1 k x hx)

theorem impR_form (m : Option Pr) : ∃ p1 p2 e : Int, impR m = .tuple #[.agg #[.int .i64 p1, .int .i64 p2], .int .i64 e] ∧ (m = none → e = 0) ∧ (e = 0 → m = none) := by
  rcases m with _ | ⟨p1, p2⟩
  · exact ⟨0, 0, 0, rfl, fun _ => rfl, fun _ => rfl⟩
  · exact ⟨p1, p2, 22, rfl, fun h => (by cases h), fun h => (by cases h)⟩

set_option maxRecDepth 100000 in
set_option maxHeartbeats 16000000 in
theorem EdgeImplies_walk (a0 : Option Addr) (len0 cap0 : Nat) (a1 : Option Addr) (len1 cap1 : Nat) (a2 : Option Addr) (len2 cap2 : Nat) (w : World) (w0 : IsPrs w a0 len0 cap0) (w1 : IsPrs w a1 len1 cap1) (w2 : IsPrs w a2 len2 cap2) :
    Calls Try.prog 6 #[.slice a0 len0 cap0, .slice a1 len1 cap1, .slice a2 len2 cap2] w fun e w' => e = .returned (.bool true) ∧ Below w.heap.size w w' := by
  have mixed : Try.prog.follows .mixedOrders = true := by kernel_rfl
  have AW : Hid (∀ W, Calls Try.prog 8 #[] W fun e w' => e = .returned (.bool true) ∧ Below W.heap.size W w') := fun W => awake_any W
  have H0 := Lib.hid w0
  have H1 := Lib.hid w1
  have H2 := Lib.hid w2
  clear w0 w1 w2
  go_enter Try.func6, Try.ntmps6
  go_wp2_with fail
  refine (AW.out _).mono ?_
  rintro e W1 ⟨rfl, hb⟩
  have HB1 := Lib.hid hb
  clear hb
  by_cases h0 : len0 ≤ 60
  · have d0 : decide ((60 : Int) < (len0 : Int)) = false := by simp; omega
    by_cases h1 : len1 ≤ 60
    · have d1 : decide ((60 : Int) < (len1 : Int)) = false := by simp; omega
      by_cases h2 : len2 ≤ 60
      · have d2 : decide ((60 : Int) < (len2 : Int)) = false := by simp; omega
        obtain ⟨l0, e0, _, s0, c0, m0⟩ := H0.out
        obtain ⟨l1, e1, _, s1, c1, m1⟩ := H1.out
        obtain ⟨l2, e2, _, s2, c2, m2⟩ := H2.out
        have HT : Hid (T3 w a0 len0 cap0 l0 a1 len1 cap1 l1 a2 len2 cap2 l2 W1) := ⟨HB1.out, ((LS.in e0 s0 c0 m0 (by omega)).below HB1.out), ((LS.in e1 s1 c1 m1 (by omega)).below HB1.out), ((LS.in e2 s2 c2 m2 (by omega)).below HB1.out)⟩
        clear e0 s0 c0 m0 e1 s1 c1 m1 e2 s2 c2 m2 HB1 H0 H1 H2 AW
        have S0 := Lib.hid (mkP_srt l0)
        have S1 := Lib.hid (mkP_srt l1)
        have S2 := Lib.hid (mkP_srt l2)
        have C0 := Lib.hid fun W (h : LS W a0 len0 cap0 l0) => rmake_ls h
        have C1 := Lib.hid fun W (h : LS W a1 len1 cap1 l1) => rmake_ls h
        have C2 := Lib.hid fun W (h : LS W a2 len2 cap2 l2) => rmake_ls h
        generalize mkP l0 = x at *
        generalize mkP l1 = y at *
        generalize mkP l2 = z at *
        go_wp2_with fail
        refine (C0.out _ HT.out.a).mono ?_
        rintro e W2 ⟨AX, nX, cX, rfl, hP, hX⟩
        have HT2 := Lib.hid (HT.out.next hP.blw)
        have HX := Lib.hid hX
        clear hP hX HT C0
        go_wp2_with fail
        refine (C1.out _ HT2.out.b).mono ?_
        rintro e W3 ⟨AY, nY, cY, rfl, hP, hY⟩
        have HT3 := Lib.hid (HT2.out.next hP.blw)
        have HX3 := Lib.hid (HX.out.below hP.blw)
        have HY := Lib.hid hY
        clear hP hY HT2 HX C1
        go_wp2_with fail
        refine (C2.out _ HT3.out.g).mono ?_
        rintro e W4 ⟨AZ, nZ, cZ, rfl, hP, hZ⟩
        have HU : Hid (T3 w AX nX cX x AY nY cY y AZ nZ cZ z W4) := ⟨(HT3.out.next hP.blw).blw, HX3.out.below hP.blw, HY.out.below hP.blw, hZ⟩
        clear hP hZ HT3 HX3 HY C2
        have CI1 := Lib.hid (pimplies_ls HU.out.a HU.out.b S0.out S1.out)
        rcases hm : misP y x with _ | ⟨u1, u2⟩
        · rw [hm] at CI1
          unfold impR at CI1
          have HM := Lib.hid hm
          clear hm
          have hq : ∀ W, (binOp .neq 25 (.agg #[.int .i64 0, .int .i64 0]) (.agg #[.int .i64 0, .int .i64 0])).run Try.prog W = .ok (.bool (!decide (((0, 0) : Pr) = (0, 0)))) W := fun W => neq_pr (0, 0) (0, 0) W
          rw [show (!decide (((0, 0) : Pr) = (0, 0))) = false by simp] at hq
          go_wp2_with fail
          refine CI1.out.mono ?_
          rintro e W5 ⟨rfl, hb⟩
          have HU5 := Lib.hid (HU.out.next hb)
          clear hb HU CI1
          go_upto_region 7 with fail
          have HU6 := Lib.hid (HU5.out.next ((Below.refl _ W5).alloc (Nat.le_refl _) (prObj 0 0)))
          have hpr := Row.new W5 25 #[.int .i64 0, .int .i64 0]
          clear HU5
          generalize (W5.alloc (.cells #[.int .i64 0, .int .i64 0] 25)) = W6 at *
          generalize W5.heap.size = pb at *
          have CM := Lib.hid (rmissing_ls HU6.out.b HU6.out.a)
          rw [HM.out] at CM
          unfold mres at CM
          (try dsimp only at CM)
          go_wp2_with fail
          refine CM.out.mono ?_
          rintro e W7 ⟨rfl, hb⟩
          have HU7 := Lib.hid (HU6.out.next hb)
          have hpr7 := hpr.below hb hpr.lt
          clear hb HU6 CM hpr
          go_upto_region 8 with fail
          have HU8 := Lib.hid (HU7.out.next ((Below.refl _ W7).alloc (Nat.le_refl _) (prObj 0 0)))
          have hpr8 := hpr7.alloc (prObj 0 0)
          have hpq := Row.new W7 25 #[.int .i64 0, .int .i64 0]
          clear HU7 hpr7
          generalize (W7.alloc (.cells #[.int .i64 0, .int .i64 0] 25)) = W8 at *
          generalize W7.heap.size = pq at *
          have k0 := hpr8.cell 0
          have k1 := hpr8.cell 1
          have k2 := hpq.cell 0
          have k3 := hpq.cell 1
          simp only [List.getElem?_toArray, List.getElem?_cons_zero, List.getElem?_cons_succ] at k0 k1 k2 k3
          clear hpr8 hpq
          go_upto_region 10 with fail
          clear k0 k1 k2 k3 hq
          have CI2 := Lib.hid (pimplies_ls HU8.out.b HU8.out.g S1.out S2.out)
          obtain ⟨f1, f2, f3, hf, hf0, hf1⟩ := impR_form (misP z y)
          rw [hf] at CI2
          have HF0 := Lib.hid hf0
          have HF1 := Lib.hid hf1
          clear hf hf0 hf1
          go_wp2_with fail
          refine CI2.out.mono ?_
          rintro e W9 ⟨rfl, hb⟩
          have HU9 := Lib.hid (HU8.out.next hb)
          clear hb HU8 CI2
          go_upto_region 11 with fail
          have HU10 := Lib.hid (HU9.out.next ((Below.refl _ W9).alloc (Nat.le_refl _) (prObj f1 f2)))
          clear HU9
          generalize (W9.alloc (.cells #[.int .i64 f1, .int .i64 f2] 25)) = W10 at *
          generalize W9.heap.size = pf at *
          have CI3 := Lib.hid (pimplies_ls HU10.out.a HU10.out.g S0.out S2.out)
          obtain ⟨g1, g2, g3, hg, hg0, hg1⟩ := impR_form (misP z x)
          rw [hg] at CI3
          have HG0 := Lib.hid hg0
          clear hg hg0 hg1
          go_wp2_with fail
          refine CI3.out.mono ?_
          rintro e W11 ⟨rfl, hb⟩
          have HU11 := Lib.hid (HU10.out.next hb)
          clear hb HU10 CI3
          go_upto_region 12 with fail
          have HU12 := Lib.hid (HU11.out.next ((Below.refl _ W11).alloc (Nat.le_refl _) (prObj g1 g2)))
          clear HU11
          generalize (W11.alloc (.cells #[.int .i64 g1, .int .i64 g2] 25)) = W12 at *
          generalize W11.heap.size = pg at *
          by_cases hf3 : f3 = 0
          · have hg3 := HG0.out (mis_trans HM.out (HF1.out hf3))
            subst hf3 hg3
            go_wp2
            go_ret
            exact ⟨rfl, HU12.out.blw⟩
          · have e3 : (f3 != 0) = true := by simp [hf3]
            go_wp2
            go_ret
            exact ⟨rfl, HU12.out.blw⟩
        · rw [hm] at CI1
          unfold impR at CI1
          dsimp only at CI1
          have HM := Lib.hid hm
          clear hm
          have hq : ∀ W, (binOp .neq 25 (.agg #[.int .i64 u1, .int .i64 u2]) (.agg #[.int .i64 u1, .int .i64 u2])).run Try.prog W = .ok (.bool (!decide (((u1, u2) : Pr) = (u1, u2)))) W := fun W => neq_pr (u1, u2) (u1, u2) W
          rw [show (!decide (((u1, u2) : Pr) = (u1, u2))) = false by simp] at hq
          go_wp2_with fail
          refine CI1.out.mono ?_
          rintro e W5 ⟨rfl, hb⟩
          have HU5 := Lib.hid (HU.out.next hb)
          clear hb HU CI1
          go_upto_region 7 with fail
          have HU6 := Lib.hid (HU5.out.next ((Below.refl _ W5).alloc (Nat.le_refl _) (prObj u1 u2)))
          have hpr := Row.new W5 25 #[.int .i64 u1, .int .i64 u2]
          clear HU5
          generalize (W5.alloc (.cells #[.int .i64 u1, .int .i64 u2] 25)) = W6 at *
          generalize W5.heap.size = pb at *
          have CM := Lib.hid (rmissing_ls HU6.out.b HU6.out.a)
          rw [HM.out] at CM
          unfold mres at CM
          (try dsimp only at CM)
          go_wp2_with fail
          refine CM.out.mono ?_
          rintro e W7 ⟨rfl, hb⟩
          have HU7 := Lib.hid (HU6.out.next hb)
          have hpr7 := hpr.below hb hpr.lt
          clear hb HU6 CM hpr
          go_upto_region 8 with fail
          have HU8 := Lib.hid (HU7.out.next ((Below.refl _ W7).alloc (Nat.le_refl _) (prObj u1 u2)))
          have hpr8 := hpr7.alloc (prObj u1 u2)
          have hpq := Row.new W7 25 #[.int .i64 u1, .int .i64 u2]
          clear HU7 hpr7
          generalize (W7.alloc (.cells #[.int .i64 u1, .int .i64 u2] 25)) = W8 at *
          generalize W7.heap.size = pq at *
          have k0 := hpr8.cell 0
          have k1 := hpr8.cell 1
          have k2 := hpq.cell 0
          have k3 := hpq.cell 1
          simp only [List.getElem?_toArray, List.getElem?_cons_zero, List.getElem?_cons_succ] at k0 k1 k2 k3
          clear hpr8 hpq
          go_upto_region 10 with fail
          clear k0 k1 k2 k3 hq
          have CI2 := Lib.hid (pimplies_ls HU8.out.b HU8.out.g S1.out S2.out)
          obtain ⟨f1, f2, f3, hf, hf0, hf1⟩ := impR_form (misP z y)
          rw [hf] at CI2
          have HF0 := Lib.hid hf0
          have HF1 := Lib.hid hf1
          clear hf hf0 hf1
          go_wp2_with fail
          refine CI2.out.mono ?_
          rintro e W9 ⟨rfl, hb⟩
          have HU9 := Lib.hid (HU8.out.next hb)
          clear hb HU8 CI2
          go_upto_region 11 with fail
          have HU10 := Lib.hid (HU9.out.next ((Below.refl _ W9).alloc (Nat.le_refl _) (prObj f1 f2)))
          clear HU9
          generalize (W9.alloc (.cells #[.int .i64 f1, .int .i64 f2] 25)) = W10 at *
          generalize W9.heap.size = pf at *
          have CI3 := Lib.hid (pimplies_ls HU10.out.a HU10.out.g S0.out S2.out)
          obtain ⟨g1, g2, g3, hg, hg0, hg1⟩ := impR_form (misP z x)
          rw [hg] at CI3
          have HG0 := Lib.hid hg0
          clear hg hg0 hg1
          go_wp2_with fail
          refine CI3.out.mono ?_
          rintro e W11 ⟨rfl, hb⟩
          have HU11 := Lib.hid (HU10.out.next hb)
          clear hb HU10 CI3
          go_upto_region 12 with fail
          have HU12 := Lib.hid (HU11.out.next ((Below.refl _ W11).alloc (Nat.le_refl _) (prObj g1 g2)))
          clear HU11
          generalize (W11.alloc (.cells #[.int .i64 g1, .int .i64 g2] 25)) = W12 at *
          generalize W11.heap.size = pg at *
          go_wp2
          go_ret
          exact ⟨rfl, HU12.out.blw⟩
      · have d2 : decide ((60 : Int) < (len2 : Int)) = true := by simp; omega
        go_wp2_with fail
        refine (AW.out _).mono ?_
        rintro e W9 ⟨rfl, hb⟩
        have HZ := Lib.hid (HB1.out.trans (hb.mono HB1.out.size))
        clear hb HB1
        go_wp2
        go_ret
        exact ⟨rfl, HZ.out⟩
    · have d1 : decide ((60 : Int) < (len1 : Int)) = true := by simp; omega
      go_wp2_with fail
      refine (AW.out _).mono ?_
      rintro e W9 ⟨rfl, hb⟩
      have HZ := Lib.hid (HB1.out.trans (hb.mono HB1.out.size))
      clear hb HB1
      go_wp2
      go_ret
      exact ⟨rfl, HZ.out⟩
  · have d0 : decide ((60 : Int) < (len0 : Int)) = true := by simp; omega
    go_wp2_with fail
    refine (AW.out _).mono ?_
    rintro e W9 ⟨rfl, hb⟩
    have HZ := Lib.hid (HB1.out.trans (hb.mono HB1.out.size))
    clear hb HB1
    go_wp2
    go_ret
    exact ⟨rfl, HZ.out⟩

end Go.Proofs.Ytacendjemomkfaa
