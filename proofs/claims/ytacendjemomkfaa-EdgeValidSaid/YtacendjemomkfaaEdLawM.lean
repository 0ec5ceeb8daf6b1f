/-
  The walk of the statement on the reference.
-/
import Derived.Test.YtacendjemomkfaaEdAwk
namespace Go.Proofs.Ytacendjemomkfaa
open Go.RowKit
set_option linter.unusedVariables false

/-- What the walk carries: the invariants, and the pair in its block. -/
structure EM (w : World) (A : Option Addr) (xs : List (List Pr)) (pb : Nat) (v l : Int) (W : World) : Prop where
  blw : Below w.heap.size w W
  see : SeesPP W w.heap.size A xs
  row : Row W pb 25 #[.int .i64 v, .int .i64 l]
theorem EM.next {w : World} {A : Option Addr} {xs : List (List Pr)} {pb : Nat} {v l : Int} {W W' : World} (h : EM w A xs pb v l W) (hb : Below W.heap.size W W') : EM w A xs pb v l W' :=
  ⟨h.blw.trans (hb.mono h.blw.size), h.see.below (hb.mono h.blw.size), h.row.below hb h.row.lt⟩

set_option maxRecDepth 100000 in
set_option maxHeartbeats 16000000 in
theorem EdgeMatchesReference_walk (a0 : Option Addr) (len0 cap0 : Nat) (a1 a2 a3 a4 : Int) (a5 : Array Value) (a6 : Int) (w : World) (w0 : IsPrss w a0 len0 cap0) (w1 : (Lit.int .i64 a1).wf = true) (w2 : (Lit.int .i64 a2).wf = true) (w3 : (Lit.int .i64 a3).wf = true) (w4 : (Lit.int .i64 a4).wf = true) (w5 : IsPr w a5) (w6 : (Lit.int .i64 a6).wf = true) :
    Calls Try.prog 3 #[.slice a0 len0 cap0, .int .i64 a1, .int .i64 a2, .int .i64 a3, .int .i64 a4, .agg a5, .int .i64 a6] w fun e w' => e = .returned (.bool true) ∧ Below w.heap.size w w' := by
  have mixed : Try.prog.follows .mixedOrders = true := by kernel_rfl
  obtain ⟨xs, rfl, hxs, hxw, _, hxm⟩ := w0
  obtain ⟨⟨v, l⟩, rfl, hv, hl⟩ := w5
  have hv := i64_of_wf hv
  have hl := i64_of_wf hl
  have AW : Hid (∀ W, Calls Try.prog 8 #[] W fun e w' => e = .returned (.bool true) ∧ Below W.heap.size W w') := fun W => awake_any W
  have HXW := Lib.hid hxw
  have hb0 := (Below.refl w.heap.size w).alloc (Nat.le_refl _) (prObj v l)
  have HE : Hid (EM w a0 xs w.heap.size v l (w.alloc (prObj v l))) := ⟨hb0, hxs.below hb0, Row.new w _ _⟩
  have hml : xs.length ≤ maxLen := by omega
  clear w1 w2 w3 w4 w6 hxs hxw hb0 hxm
  dsimp only at hv hl
  go_enter Try.func3, Try.ntmps3
  go_upto_region 1 with fail
  have hpb : w.heap.size = w.heap.size := rfl
  generalize (w.alloc (.cells #[.int .i64 v, .int .i64 l] 25)) = W0 at *
  go_wp2_with fail
  refine (AW.out _).mono ?_
  rintro e W1 ⟨rfl, hb⟩
  have HE1 := Lib.hid (HE.out.next hb)
  clear hb HE
  go_wp2_with fail
  refine (rfew_any _ _ xs _ W1 HE1.out.see hml).mono ?_
  rintro e W2 ⟨⟨b, rfl, hF⟩, hG⟩
  have HE2 := Lib.hid (HE1.out.next hG.below)
  clear hG HE1
  cases b
  · clear hF
    go_wp2_with fail
    refine (AW.out _).mono ?_
    rintro e W9 ⟨rfl, hb⟩
    have HZ := Lib.hid (HE2.out.next hb)
    clear hb HE2
    go_wp2
    go_ret
    exact ⟨rfl, HZ.out.blw⟩
  · obtain ⟨hf1, hf2⟩ := hF rfl
    have HF1 := Lib.hid hf1
    have HF2 := Lib.hid hf2
    clear hF hf1 hf2 AW
    have C1 := Lib.hid (pvalid_any _ a0 xs cap0 a1 a2 a3 a4 W2 HE2.out.see HE2.out.blw.size (by have := HF1.out; omega) (fun x hx => by have := HF2.out x hx; omega) HXW.out)
    obtain ⟨E, hE⟩ : ∃ z, z = validE xs a1 a2 a3 a4 := ⟨_, rfl⟩
    rw [← hE] at C1
    go_wp2_with fail
    refine C1.out.mono ?_
    rintro e W3 ⟨rfl, hb⟩
    have HE3 := Lib.hid (HE2.out.next hb)
    have C2 := Lib.hid (rvalid_any _ a0 xs cap0 a1 a2 a3 a4 W3 HE3.out.see (by have := HF1.out; omega) (fun x hx => by have := HF2.out x hx; omega) HXW.out)
    rw [← hE] at C2
    clear hb HE2 C1 hE
    have eE : (E != E) = false := by simp
    go_wp2_with fail
    refine C2.out.mono ?_
    rintro e W4 ⟨rfl, hG⟩
    have HE4 := Lib.hid (HE3.out.next hG.below)
    clear hG HE3 C2
    go_upto_region 5 with fail
    have r0 := HE4.out.row.cell 0
    have r1 := HE4.out.row.cell 1
    simp only [List.getElem?_toArray, List.getElem?_cons_zero, List.getElem?_cons_succ] at r0 r1
    by_cases hv0 : 0 ≤ v
    · have dv : decide (0 ≤ v) = true := by simp [hv0]
      by_cases hl0 : 0 ≤ l
      · have dl : decide (0 ≤ l) = true := by simp [hl0]
        have C3 : Hid (∀ n os, Calls Try.prog 12 #[.agg #[.int .i64 v, .int .i64 l], .int .i64 a6] (Go.Sort.grow (W4.drewN n) os) fun e w' => e = .returned (.bool (initP (v, l) a6)) ∧ ∃ q os', w' = Go.Sort.grow ((Go.Sort.grow (W4.drewN n) os).drewN q) os') := fun n os => pinit_any v l a6 _ hv0 hl0 (by omega) (by omega)
        have C4 : Hid (∀ n os, Calls Try.prog 13 #[.agg #[.int .i64 v, .int .i64 l], .int .i64 a6] (Go.Sort.grow (W4.drewN n) os) fun e w' => e = .returned (.bool (initP (v, l) a6)) ∧ ∃ q os', w' = Go.Sort.grow ((Go.Sort.grow (W4.drewN n) os).drewN q) os') := fun n os => rinit_any v l a6 _ hv0 hl0 (by omega)
        generalize initP (v, l) a6 = ib at *
        have ei : (ib != ib) = false := by simp
        have g0 := fun n os => Go.cell_grown (World.block_lt_of_cell? _ _ r0) r0 n os
        have g1 := fun n os => Go.cell_grown (World.block_lt_of_cell? _ _ r1) r1 n os
        go_quiet_grown (first | (go_at_call 12; refine Calls.grown_of (C3.out _ _)) | (go_at_call 13; refine Calls.grown_of (C4.out _ _)))
        have HE5 := Lib.hid (HE4.out.next (show Grew W4 _ from ⟨nq, osq, rfl⟩).below)
        clear HE4 C3 C4 g0 g1 r0 r1 ei
        generalize Go.Sort.grow (W4.drewN nq) osq = W5 at *
        go_upto_region 7 with fail
        by_cases hloa6 : a6 < 0
        · have dloa6 : decide (a6 < 0) = true := by simp [hloa6]
          clear HXW
          go_wp2
          go_ret
          exact ⟨rfl, HE5.out.blw⟩
        · have dloa6 : decide (a6 < 0) = false := by simp; omega
          by_cases hloa2 : a2 < 0
          · have dloa2 : decide (a2 < 0) = true := by simp [hloa2]
            clear HXW
            go_wp2
            go_ret
            exact ⟨rfl, HE5.out.blw⟩
          · have dloa2 : decide (a2 < 0) = false := by simp; omega
            by_cases hloa3 : a3 < 0
            · have dloa3 : decide (a3 < 0) = true := by simp [hloa3]
              clear HXW
              go_wp2
              go_ret
              exact ⟨rfl, HE5.out.blw⟩
            · have dloa3 : decide (a3 < 0) = false := by simp; omega
              by_cases hloa4 : a4 < 0
              · have dloa4 : decide (a4 < 0) = true := by simp [hloa4]
                clear HXW
                go_wp2
                go_ret
                exact ⟨rfl, HE5.out.blw⟩
              · have dloa4 : decide (a4 < 0) = false := by simp; omega
                by_cases hhia6 : 20 < a6
                · have dhia6 : decide (20 < a6) = true := by simp [hhia6]
                  clear HXW
                  go_wp2
                  go_ret
                  exact ⟨rfl, HE5.out.blw⟩
                · have dhia6 : decide (20 < a6) = false := by simp; omega
                  by_cases hhia2 : 20 < a2
                  · have dhia2 : decide (20 < a2) = true := by simp [hhia2]
                    clear HXW
                    go_wp2
                    go_ret
                    exact ⟨rfl, HE5.out.blw⟩
                  · have dhia2 : decide (20 < a2) = false := by simp; omega
                    by_cases hhia3 : 20 < a3
                    · have dhia3 : decide (20 < a3) = true := by simp [hhia3]
                      clear HXW
                      go_wp2
                      go_ret
                      exact ⟨rfl, HE5.out.blw⟩
                    · have dhia3 : decide (20 < a3) = false := by simp; omega
                      by_cases hhia4 : 20 < a4
                      · have dhia4 : decide (20 < a4) = true := by simp [hhia4]
                        clear HXW
                        go_wp2
                        go_ret
                        exact ⟨rfl, HE5.out.blw⟩
                      · have dhia4 : decide (20 < a4) = false := by simp; omega
                        obtain ⟨n, rfl⟩ := Int.eq_ofNat_of_zero_le (show 0 ≤ a2 by omega)
                        obtain ⟨r, rfl⟩ := Int.eq_ofNat_of_zero_le (show 0 ≤ a3 by omega)
                        obtain ⟨s, rfl⟩ := Int.eq_ofNat_of_zero_le (show 0 ≤ a4 by omega)
                        have hn20 : n ≤ 20 := by omega
                        have hr20 : r ≤ 20 := by omega
                        have hs20 : s ≤ 20 := by omega
                        have hlen : (allA a6 r s n).length ≤ 1000 := by
                          have h1 := allA_len a6 r s n
                          have h2 : n * (2 * max r s) ≤ 20 * 40 := Nat.mul_le_mul hn20 (by omega)
                          omega
                        have HLEN := Lib.hid hlen
                        have C5 := Lib.hid fun W => pall_any a6 n r s W hn20 hr20 hs20 (by omega) (by omega)
                        have C6 := Lib.hid fun W => rall_any a6 n r s W hn20 hr20 hs20
                        generalize allA a6 r s n = L at *
                        go_wp2_with fail
                        refine (C5.out _).mono ?_
                        rintro e W6 ⟨v1, rfl, hP⟩
                        have HP1 := Lib.hid hP
                        obtain ⟨A1, c1, rfl, hc1, hm1⟩ := HP1.out.slice
                        have HE6 := Lib.hid (HE5.out.next HP1.out.blw)
                        clear hP HE5
                        go_wp2_with fail
                        refine (C6.out _).mono ?_
                        rintro e W7 ⟨v2, rfl, hP⟩
                        have HP2 := Lib.hid hP
                        have HP3 := Lib.hid (HP1.out.next HP2.out.blw)
                        obtain ⟨A2, c2, rfl, hc2, hm2⟩ := HP2.out.slice
                        have HE7 := Lib.hid (HE6.out.next HP2.out.blw)
                        clear hP HE6 HP1
                        have C7 := Lib.hid (same_lsB (HP3.out.ls HLEN.out) (HP2.out.ls HLEN.out))
                        rw [show decide (L = L) = true by simp] at C7
                        generalize L.length = k at *
                        go_wp2_with fail
                        refine C7.out.mono ?_
                        rintro e W8 ⟨rfl, hb⟩
                        have HE8 := Lib.hid (HE7.out.next hb)
                        clear hb C5 C6 C7
                        go_wp2
                        go_ret
                        exact ⟨rfl, HE8.out.blw⟩
      · have dl : decide (0 ≤ l) = false := by simp; omega
        go_quiet (fail)
        have HE5 := Lib.hid (HE4.out.next (blw_drewN (Below.refl _ W4) nq))
        clear HE4 r0 r1
        generalize W4.drewN nq = W5 at *
        go_upto_region 7 with fail
        by_cases hloa6 : a6 < 0
        · have dloa6 : decide (a6 < 0) = true := by simp [hloa6]
          clear HXW
          go_wp2
          go_ret
          exact ⟨rfl, HE5.out.blw⟩
        · have dloa6 : decide (a6 < 0) = false := by simp; omega
          by_cases hloa2 : a2 < 0
          · have dloa2 : decide (a2 < 0) = true := by simp [hloa2]
            clear HXW
            go_wp2
            go_ret
            exact ⟨rfl, HE5.out.blw⟩
          · have dloa2 : decide (a2 < 0) = false := by simp; omega
            by_cases hloa3 : a3 < 0
            · have dloa3 : decide (a3 < 0) = true := by simp [hloa3]
              clear HXW
              go_wp2
              go_ret
              exact ⟨rfl, HE5.out.blw⟩
            · have dloa3 : decide (a3 < 0) = false := by simp; omega
              by_cases hloa4 : a4 < 0
              · have dloa4 : decide (a4 < 0) = true := by simp [hloa4]
                clear HXW
                go_wp2
                go_ret
                exact ⟨rfl, HE5.out.blw⟩
              · have dloa4 : decide (a4 < 0) = false := by simp; omega
                by_cases hhia6 : 20 < a6
                · have dhia6 : decide (20 < a6) = true := by simp [hhia6]
                  clear HXW
                  go_wp2
                  go_ret
                  exact ⟨rfl, HE5.out.blw⟩
                · have dhia6 : decide (20 < a6) = false := by simp; omega
                  by_cases hhia2 : 20 < a2
                  · have dhia2 : decide (20 < a2) = true := by simp [hhia2]
                    clear HXW
                    go_wp2
                    go_ret
                    exact ⟨rfl, HE5.out.blw⟩
                  · have dhia2 : decide (20 < a2) = false := by simp; omega
                    by_cases hhia3 : 20 < a3
                    · have dhia3 : decide (20 < a3) = true := by simp [hhia3]
                      clear HXW
                      go_wp2
                      go_ret
                      exact ⟨rfl, HE5.out.blw⟩
                    · have dhia3 : decide (20 < a3) = false := by simp; omega
                      by_cases hhia4 : 20 < a4
                      · have dhia4 : decide (20 < a4) = true := by simp [hhia4]
                        clear HXW
                        go_wp2
                        go_ret
                        exact ⟨rfl, HE5.out.blw⟩
                      · have dhia4 : decide (20 < a4) = false := by simp; omega
                        obtain ⟨n, rfl⟩ := Int.eq_ofNat_of_zero_le (show 0 ≤ a2 by omega)
                        obtain ⟨r, rfl⟩ := Int.eq_ofNat_of_zero_le (show 0 ≤ a3 by omega)
                        obtain ⟨s, rfl⟩ := Int.eq_ofNat_of_zero_le (show 0 ≤ a4 by omega)
                        have hn20 : n ≤ 20 := by omega
                        have hr20 : r ≤ 20 := by omega
                        have hs20 : s ≤ 20 := by omega
                        have hlen : (allA a6 r s n).length ≤ 1000 := by
                          have h1 := allA_len a6 r s n
                          have h2 : n * (2 * max r s) ≤ 20 * 40 := Nat.mul_le_mul hn20 (by omega)
                          omega
                        have HLEN := Lib.hid hlen
                        have C5 := Lib.hid fun W => pall_any a6 n r s W hn20 hr20 hs20 (by omega) (by omega)
                        have C6 := Lib.hid fun W => rall_any a6 n r s W hn20 hr20 hs20
                        generalize allA a6 r s n = L at *
                        go_wp2_with fail
                        refine (C5.out _).mono ?_
                        rintro e W6 ⟨v1, rfl, hP⟩
                        have HP1 := Lib.hid hP
                        obtain ⟨A1, c1, rfl, hc1, hm1⟩ := HP1.out.slice
                        have HE6 := Lib.hid (HE5.out.next HP1.out.blw)
                        clear hP HE5
                        go_wp2_with fail
                        refine (C6.out _).mono ?_
                        rintro e W7 ⟨v2, rfl, hP⟩
                        have HP2 := Lib.hid hP
                        have HP3 := Lib.hid (HP1.out.next HP2.out.blw)
                        obtain ⟨A2, c2, rfl, hc2, hm2⟩ := HP2.out.slice
                        have HE7 := Lib.hid (HE6.out.next HP2.out.blw)
                        clear hP HE6 HP1
                        have C7 := Lib.hid (same_lsB (HP3.out.ls HLEN.out) (HP2.out.ls HLEN.out))
                        rw [show decide (L = L) = true by simp] at C7
                        generalize L.length = k at *
                        go_wp2_with fail
                        refine C7.out.mono ?_
                        rintro e W8 ⟨rfl, hb⟩
                        have HE8 := Lib.hid (HE7.out.next hb)
                        clear hb C5 C6 C7
                        go_wp2
                        go_ret
                        exact ⟨rfl, HE8.out.blw⟩
    · have dv : decide (0 ≤ v) = false := by simp; omega
      go_quiet (fail)
      have HE5 := Lib.hid (HE4.out.next (blw_drewN (Below.refl _ W4) nq))
      clear HE4 r0 r1
      generalize W4.drewN nq = W5 at *
      go_upto_region 7 with fail
      by_cases hloa6 : a6 < 0
      · have dloa6 : decide (a6 < 0) = true := by simp [hloa6]
        clear HXW
        go_wp2
        go_ret
        exact ⟨rfl, HE5.out.blw⟩
      · have dloa6 : decide (a6 < 0) = false := by simp; omega
        by_cases hloa2 : a2 < 0
        · have dloa2 : decide (a2 < 0) = true := by simp [hloa2]
          clear HXW
          go_wp2
          go_ret
          exact ⟨rfl, HE5.out.blw⟩
        · have dloa2 : decide (a2 < 0) = false := by simp; omega
          by_cases hloa3 : a3 < 0
          · have dloa3 : decide (a3 < 0) = true := by simp [hloa3]
            clear HXW
            go_wp2
            go_ret
            exact ⟨rfl, HE5.out.blw⟩
          · have dloa3 : decide (a3 < 0) = false := by simp; omega
            by_cases hloa4 : a4 < 0
            · have dloa4 : decide (a4 < 0) = true := by simp [hloa4]
              clear HXW
              go_wp2
              go_ret
              exact ⟨rfl, HE5.out.blw⟩
            · have dloa4 : decide (a4 < 0) = false := by simp; omega
              by_cases hhia6 : 20 < a6
              · have dhia6 : decide (20 < a6) = true := by simp [hhia6]
                clear HXW
                go_wp2
                go_ret
                exact ⟨rfl, HE5.out.blw⟩
              · have dhia6 : decide (20 < a6) = false := by simp; omega
                by_cases hhia2 : 20 < a2
                · have dhia2 : decide (20 < a2) = true := by simp [hhia2]
                  clear HXW
                  go_wp2
                  go_ret
                  exact ⟨rfl, HE5.out.blw⟩
                · have dhia2 : decide (20 < a2) = false := by simp; omega
                  by_cases hhia3 : 20 < a3
                  · have dhia3 : decide (20 < a3) = true := by simp [hhia3]
                    clear HXW
                    go_wp2
                    go_ret
                    exact ⟨rfl, HE5.out.blw⟩
                  · have dhia3 : decide (20 < a3) = false := by simp; omega
                    by_cases hhia4 : 20 < a4
                    · have dhia4 : decide (20 < a4) = true := by simp [hhia4]
                      clear HXW
                      go_wp2
                      go_ret
                      exact ⟨rfl, HE5.out.blw⟩
                    · have dhia4 : decide (20 < a4) = false := by simp; omega
                      obtain ⟨n, rfl⟩ := Int.eq_ofNat_of_zero_le (show 0 ≤ a2 by omega)
                      obtain ⟨r, rfl⟩ := Int.eq_ofNat_of_zero_le (show 0 ≤ a3 by omega)
                      obtain ⟨s, rfl⟩ := Int.eq_ofNat_of_zero_le (show 0 ≤ a4 by omega)
                      have hn20 : n ≤ 20 := by omega
                      have hr20 : r ≤ 20 := by omega
                      have hs20 : s ≤ 20 := by omega
                      have hlen : (allA a6 r s n).length ≤ 1000 := by
                        have h1 := allA_len a6 r s n
                        have h2 : n * (2 * max r s) ≤ 20 * 40 := Nat.mul_le_mul hn20 (by omega)
                        omega
                      have HLEN := Lib.hid hlen
                      have C5 := Lib.hid fun W => pall_any a6 n r s W hn20 hr20 hs20 (by omega) (by omega)
                      have C6 := Lib.hid fun W => rall_any a6 n r s W hn20 hr20 hs20
                      generalize allA a6 r s n = L at *
                      go_wp2_with fail
                      refine (C5.out _).mono ?_
                      rintro e W6 ⟨v1, rfl, hP⟩
                      have HP1 := Lib.hid hP
                      obtain ⟨A1, c1, rfl, hc1, hm1⟩ := HP1.out.slice
                      have HE6 := Lib.hid (HE5.out.next HP1.out.blw)
                      clear hP HE5
                      go_wp2_with fail
                      refine (C6.out _).mono ?_
                      rintro e W7 ⟨v2, rfl, hP⟩
                      have HP2 := Lib.hid hP
                      have HP3 := Lib.hid (HP1.out.next HP2.out.blw)
                      obtain ⟨A2, c2, rfl, hc2, hm2⟩ := HP2.out.slice
                      have HE7 := Lib.hid (HE6.out.next HP2.out.blw)
                      clear hP HE6 HP1
                      have C7 := Lib.hid (same_lsB (HP3.out.ls HLEN.out) (HP2.out.ls HLEN.out))
                      rw [show decide (L = L) = true by simp] at C7
                      generalize L.length = k at *
                      go_wp2_with fail
                      refine C7.out.mono ?_
                      rintro e W8 ⟨rfl, hb⟩
                      have HE8 := Lib.hid (HE7.out.next hb)
                      clear hb C5 C6 C7
                      go_wp2
                      go_ret
                      exact ⟨rfl, HE8.out.blw⟩

end Go.Proofs.Ytacendjemomkfaa
