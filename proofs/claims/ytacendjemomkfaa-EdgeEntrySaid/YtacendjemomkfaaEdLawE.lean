/-
  The walk of the statement on the entry.
-/
import Derived.Test.YtacendjemomkfaaEdAwk
import Derived.Test.YtacendjemomkfaaIL
namespace Go.Proofs.Ytacendjemomkfaa
open Go.RowKit
set_option linter.unusedVariables false

theorem seesPP_one {w : World} {B : Nat} {A : Option Addr} {n c : Nat} {l : List Pr} (h : LS w A n c l) : SeesPP (w.alloc (.cells #[.slice A n c] 33)) (w.heap.size + 1) (some ⟨w.heap.size, 0, none⟩) [l] := by
  obtain ⟨rfl, h1, h2, h3, _⟩ := h
  refine ⟨[.slice A l.length c], sees_new w #[.slice A l.length c] _, ?_⟩
  have h4 := (CellsP.nil (w.alloc (.cells #[.slice A l.length c] 33)) (w.heap.size + 1)).snoc h1 h2 ((h3.alloc (Nat.le_refl _) _).more (Nat.le_succ _))
  exact h4

set_option maxRecDepth 100000 in
set_option maxHeartbeats 16000000 in
theorem EdgeEntry_walk (a0 : Option Addr) (len0 cap0 : Nat) (a1 a2 a3 a4 : Int) (w : World) (w0 : IsPrs w a0 len0 cap0) (w1 : (Lit.int .u8 a1).wf = true) (w2 : (Lit.int .u8 a2).wf = true) (w3 : (Lit.int .u8 a3).wf = true) (w4 : (Lit.int .u8 a4).wf = true) :
    Calls Try.prog 5 #[.slice a0 len0 cap0, .int .u8 a1, .int .u8 a2, .int .u8 a3, .int .u8 a4] w fun e w' => e = .returned (.bool true) ∧ Below w.heap.size w w' := by
  have mixed : Try.prog.follows .mixedOrders = true := by kernel_rfl
  have AW : Hid (∀ W, Calls Try.prog 8 #[] W fun e w' => e = .returned (.bool true) ∧ Below W.heap.size W w') := fun W => awake_any W
  obtain ⟨n1, rfl, hn1⟩ := u8_nat w1
  obtain ⟨n3, rfl, hn3⟩ := u8_nat w2
  obtain ⟨n4, rfl, hn4⟩ := u8_nat w3
  obtain ⟨n2, rfl, hn2⟩ := u8_nat w4
  have H0 := Lib.hid w0
  clear w0 w1 w2 w3 w4
  go_enter Try.func5, Try.ntmps5
  go_wp2_with fail
  refine (AW.out _).mono ?_
  rintro e W1 ⟨rfl, hb⟩
  have HB1 := Lib.hid hb
  clear hb
  by_cases h0 : len0 ≤ 60
  · have d0 : decide ((60 : Int) < (len0 : Int)) = false := by simp; omega
    by_cases h1 : n3 ≤ 20
    · have d1 : decide ((20 : Int) < (n3 : Int)) = false := by simp; omega
      by_cases h2 : n4 ≤ 20
      · have d2 : decide ((20 : Int) < (n4 : Int)) = false := by simp; omega
        by_cases h3 : n2 ≤ 20
        · have d3 : decide ((20 : Int) < (n2 : Int)) = false := by simp; omega
          obtain ⟨l0, e0, hw0, s0, c0, m0⟩ := H0.out
          have HL0 := Lib.hid ((LS.in e0 s0 c0 m0 (by omega)).below HB1.out)
          have HLN : Hid ((mkP l0).length ≤ 60) := Nat.le_trans (mkP_len l0) (by omega)
          have HW0 : Hid (∀ p ∈ mkP l0, PrWf p) := fun p hp => hw0 p (mem_mkP.1 hp)
          have HS0 := Lib.hid (mkP_srt l0)
          have C0 := Lib.hid (rmake_ls HL0.out)
          generalize mkP l0 = x at *
          clear e0 s0 c0 m0 H0 AW HL0 hw0
          go_wp2_with fail
          refine C0.out.mono ?_
          rintro e W2 ⟨AX, nX, cX, rfl, hP, hX⟩
          have HB2 := Lib.hid (HB1.out.trans (hP.blw.mono HB1.out.size))
          have HX := Lib.hid hX
          clear hP hX HB1 C0
          go_wp2_with fail
          have HB3 := Lib.hid (HB2.out.alloc HB2.out.size (.cells #[.slice AX nX cX] 33))
          have HSP := Lib.hid (seesPP_one (B := 0) HX.out)
          have HX3 := Lib.hid (HX.out.below ((Below.refl _ W2).alloc (Nat.le_refl _) (.cells #[.slice AX nX cX] 33)))
          generalize (W2.alloc (.cells #[.slice AX nX cX] 33)) = W3 at *
          generalize W2.heap.size = q2 at *
          have CV := Lib.hid (rvalid_any _ _ [x] 1 1 (n3 : Int) (n4 : Int) (n2 : Int) W3 HSP.out (by simp) (fun y hy => by simp at hy; subst hy; have := HLN.out; omega) (fun y hy => by simp at hy; subst hy; exact HW0.out))
          obtain ⟨E, hE⟩ : ∃ z, z = validE [x] 1 (n3 : Int) (n4 : Int) (n2 : Int) := ⟨_, rfl⟩
          rw [← hE] at CV
          have HE := Lib.hid hE
          clear hE HX HB2 HSP
          refine CV.out.mono ?_
          rintro e W4 ⟨rfl, hG⟩
          have HB4 := Lib.hid (HB3.out.trans (hG.below.mono HB3.out.size))
          have HX4 := Lib.hid (HX3.out.below hG.below)
          clear hG HB3 HX3 CV
          by_cases hE0 : E = 0
          · have eE : (E != 0) = false := by simp [hE0]
            have hvl : vlE (n3 : Int) (n4 : Int) (n2 : Int) none x = 0 := by
              have h := HE.out.symm.trans hE0
              unfold validE at h
              rw [if_neg (by simp)] at h
              unfold vlsE at h
              split at h
              · exact absurd h (by assumption)
              · omega
            have hrg := vlE_range hvl
            have HME : Hid (entP x (n1 : Int) = misP x (allA (n1 : Int) n4 n2 n3)) := entP_mis hrg
            have hlen : (allA (n1 : Int) n4 n2 n3).length ≤ 1000 := by
              have h1 := allA_len (n1 : Int) n4 n2 n3
              have h2 : n3 * (2 * max n4 n2) ≤ 20 * 40 := Nat.mul_le_mul (by omega) (by omega)
              omega
            have HLEN := Lib.hid hlen
            have CA := Lib.hid fun W => pall_any (n1 : Int) n3 n4 n2 W (by omega) (by omega) (by omega) (by omega) (by omega)
            have CE := Lib.hid (pentry_ls (n1 : Int) HX4.out HW0.out (fun p hp => ⟨(hrg p hp).1.1, locS_nn (hrg p hp).2⟩))
            rcases hm : misP x (allA (n1 : Int) n4 n2 n3) with _ | ⟨u1, u2⟩
            · rw [HME.out, hm] at CE
              unfold entR at CE
              have HMS := Lib.hid hm
              have hq : ∀ W, (binOp .eql 25 (.agg #[.int .i64 0, .int .i64 0]) (.agg #[.int .i64 0, .int .i64 0])).run Try.prog W = .ok (.bool (decide (((0, 0) : Pr) = (0, 0)))) W := fun W => eq_pr (0, 0) (0, 0) W
              rw [show decide (((0, 0) : Pr) = (0, 0)) = true by simp] at hq
              clear hm hvl hrg hlen hE0 HME
              go_wp2_with fail
              refine CE.out.mono ?_
              rintro e W5 ⟨rfl, hb⟩
              have HX5 := Lib.hid (HX4.out.below hb)
              have HB5 := Lib.hid (HB4.out.trans (hb.mono HB4.out.size))
              clear hb HX4 HB4 CE
              go_upto_region 7 with fail
              have hpr := Row.new W5 25 #[.int .i64 0, .int .i64 0]
              have HX6 := Lib.hid (HX5.out.below ((Below.refl _ W5).alloc (Nat.le_refl _) (prObj 0 0)))
              have HB6 := Lib.hid (HB5.out.alloc HB5.out.size (prObj 0 0))
              clear HX5 HB5
              generalize (W5.alloc (.cells #[.int .i64 0, .int .i64 0] 25)) = W6 at *
              generalize W5.heap.size = pb at *
              go_wp2_with fail
              refine (CA.out _).mono ?_
              rintro e W7 ⟨v7, rfl, hP⟩
              have HX7 := Lib.hid (HX6.out.below hP.blw)
              have HB7 := Lib.hid (HB6.out.trans (hP.blw.mono HB6.out.size))
              have hpr7 := hpr.below hP.blw hpr.lt
              have HP := Lib.hid hP
              clear hP HX6 HB6 CA hpr
              obtain ⟨A7, c7, rfl, hc7, hm7⟩ := HP.out.slice
              have CM := Lib.hid (rmissing_ls HX7.out (HP.out.ls HLEN.out))
              rw [HMS.out] at CM
              unfold mres at CM
              (try dsimp only at CM)
              generalize (allA (n1 : Int) n4 n2 n3).length = k7 at *
              go_wp2_with fail
              refine CM.out.mono ?_
              rintro e W8 ⟨rfl, hb⟩
              have HB8 := Lib.hid (HB7.out.trans (hb.mono HB7.out.size))
              have hpr8 := hpr7.below hb hpr7.lt
              clear hb HX7 HB7 CM hpr7 HP
              go_upto_region 8 with fail
              have HB9 := Lib.hid (HB8.out.alloc HB8.out.size (prObj 0 0))
              have hpr9 := hpr8.alloc (prObj 0 0)
              have hpq := Row.new W8 25 #[.int .i64 0, .int .i64 0]
              clear HB8 hpr8
              generalize (W8.alloc (.cells #[.int .i64 0, .int .i64 0] 25)) = W9 at *
              generalize W8.heap.size = pq at *
              have k0 := hpr9.cell 0
              have k1 := hpr9.cell 1
              have k2 := hpq.cell 0
              have k3 := hpq.cell 1
              simp only [List.getElem?_toArray, List.getElem?_cons_zero, List.getElem?_cons_succ] at k0 k1 k2 k3
              clear hpr9 hpq
              go_wp2
              go_ret
              exact ⟨rfl, HB9.out⟩
            · rw [HME.out, hm] at CE
              unfold entR at CE
              dsimp only at CE
              have HMS := Lib.hid hm
              have hq : ∀ W, (binOp .eql 25 (.agg #[.int .i64 u1, .int .i64 u2]) (.agg #[.int .i64 u1, .int .i64 u2])).run Try.prog W = .ok (.bool (decide (((u1, u2) : Pr) = (u1, u2)))) W := fun W => eq_pr (u1, u2) (u1, u2) W
              rw [show decide (((u1, u2) : Pr) = (u1, u2)) = true by simp] at hq
              clear hm hvl hrg hlen hE0 HME
              go_wp2_with fail
              refine CE.out.mono ?_
              rintro e W5 ⟨rfl, hb⟩
              have HX5 := Lib.hid (HX4.out.below hb)
              have HB5 := Lib.hid (HB4.out.trans (hb.mono HB4.out.size))
              clear hb HX4 HB4 CE
              go_upto_region 7 with fail
              have hpr := Row.new W5 25 #[.int .i64 u1, .int .i64 u2]
              have HX6 := Lib.hid (HX5.out.below ((Below.refl _ W5).alloc (Nat.le_refl _) (prObj u1 u2)))
              have HB6 := Lib.hid (HB5.out.alloc HB5.out.size (prObj u1 u2))
              clear HX5 HB5
              generalize (W5.alloc (.cells #[.int .i64 u1, .int .i64 u2] 25)) = W6 at *
              generalize W5.heap.size = pb at *
              go_wp2_with fail
              refine (CA.out _).mono ?_
              rintro e W7 ⟨v7, rfl, hP⟩
              have HX7 := Lib.hid (HX6.out.below hP.blw)
              have HB7 := Lib.hid (HB6.out.trans (hP.blw.mono HB6.out.size))
              have hpr7 := hpr.below hP.blw hpr.lt
              have HP := Lib.hid hP
              clear hP HX6 HB6 CA hpr
              obtain ⟨A7, c7, rfl, hc7, hm7⟩ := HP.out.slice
              have CM := Lib.hid (rmissing_ls HX7.out (HP.out.ls HLEN.out))
              rw [HMS.out] at CM
              unfold mres at CM
              (try dsimp only at CM)
              generalize (allA (n1 : Int) n4 n2 n3).length = k7 at *
              go_wp2_with fail
              refine CM.out.mono ?_
              rintro e W8 ⟨rfl, hb⟩
              have HB8 := Lib.hid (HB7.out.trans (hb.mono HB7.out.size))
              have hpr8 := hpr7.below hb hpr7.lt
              clear hb HX7 HB7 CM hpr7 HP
              go_upto_region 8 with fail
              have HB9 := Lib.hid (HB8.out.alloc HB8.out.size (prObj u1 u2))
              have hpr9 := hpr8.alloc (prObj u1 u2)
              have hpq := Row.new W8 25 #[.int .i64 u1, .int .i64 u2]
              clear HB8 hpr8
              generalize (W8.alloc (.cells #[.int .i64 u1, .int .i64 u2] 25)) = W9 at *
              generalize W8.heap.size = pq at *
              have k0 := hpr9.cell 0
              have k1 := hpr9.cell 1
              have k2 := hpq.cell 0
              have k3 := hpq.cell 1
              simp only [List.getElem?_toArray, List.getElem?_cons_zero, List.getElem?_cons_succ] at k0 k1 k2 k3
              clear hpr9 hpq
              go_wp2
              go_ret
              exact ⟨rfl, HB9.out⟩
          · have eE : (E != 0) = true := by simp [hE0]
            go_wp2
            go_ret
            exact ⟨rfl, HB4.out⟩
        · have d3 : decide ((20 : Int) < (n2 : Int)) = true := by simp; omega
          go_wp2_with fail
          refine (AW.out _).mono ?_
          rintro e W9 ⟨rfl, hb⟩
          have HZ := Lib.hid (HB1.out.trans (hb.mono HB1.out.size))
          clear hb HB1
          go_wp2
          go_ret
          exact ⟨rfl, HZ.out⟩
      · have d2 : decide ((20 : Int) < (n4 : Int)) = true := by simp; omega
        go_wp2_with fail
        refine (AW.out _).mono ?_
        rintro e W9 ⟨rfl, hb⟩
        have HZ := Lib.hid (HB1.out.trans (hb.mono HB1.out.size))
        clear hb HB1
        go_wp2
        go_ret
        exact ⟨rfl, HZ.out⟩
    · have d1 : decide ((20 : Int) < (n3 : Int)) = true := by simp; omega
      go_wp2_with fail
      refine (AW.out _).mono ?_
      rintro e W9 ⟨rfl, hb⟩
      have HZ := Lib.hid (HB1.out.trans (hb.mono HB1.out.size))
      clear hb HB1
      go_wp2
      go_ret
      exact ⟨rfl, HZ.out⟩
  · have d0 : decide ((60 : Int) < (len0 : Int)) = true := by simp; omega
    go_wp2_with fail
    refine (AW.out _).mono ?_
    rintro e W9 ⟨rfl, hb⟩
    have HZ := Lib.hid (HB1.out.trans (hb.mono HB1.out.size))
    clear hb HB1
    go_wp2
    go_ret
    exact ⟨rfl, HZ.out⟩

end Go.Proofs.Ytacendjemomkfaa
