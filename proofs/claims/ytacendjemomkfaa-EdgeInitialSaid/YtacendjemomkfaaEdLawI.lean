/-
  The walk of the statement on initial pairs.
-/
import Derived.Test.YtacendjemomkfaaEdAwk
import Derived.Test.YtacendjemomkfaaIL
namespace Go.Proofs.Ytacendjemomkfaa
open Go.RowKit
set_option linter.unusedVariables false

/-- What the walk carries: the pair in its block, and the values. -/
structure EI (w : World) (pb : Nat) (v l : Int) (A : Option Addr) (n c : Nat) (x : List Int) (W : World) : Prop where
  blw : Below w.heap.size w W
  row : Row W pb 25 #[.int .i64 v, .int .i64 l]
  vals : IS W A n c x
theorem EI.next {w : World} {pb : Nat} {v l : Int} {A : Option Addr} {n c : Nat} {x : List Int} {W W' : World} (h : EI w pb v l A n c x W) (hb : Below W.heap.size W W') : EI w pb v l A n c x W' :=
  ⟨h.blw.trans (hb.mono h.blw.size), h.row.below hb h.row.lt, h.vals.below hb⟩

theorem init_a1 {v l a : Int} (h : v < a) (h1 : l % 2 = 1) : initP (v, l) a = decide (l / 2 = v) := by unfold initP; rw [if_pos h]; simp [h1]
theorem init_a0 {v l a : Int} (h : v < a) (h1 : ¬ l % 2 = 1) : initP (v, l) a = false := by unfold initP; rw [if_pos h]; simp [h1]
theorem init_b1 {v l a : Int} (h : ¬ v < a) (h1 : l % 2 = 1) : initP (v, l) a = decide (a ≤ l / 2) := by unfold initP; rw [if_neg h]; simp [h1]
theorem init_b0 {v l a : Int} (h : ¬ v < a) (h1 : ¬ l % 2 = 1) : initP (v, l) a = true := by unfold initP; rw [if_neg h]; simp [h1]

set_option maxRecDepth 100000 in
set_option maxHeartbeats 16000000 in
theorem EdgeInitial_walk (a0 : Array Value) (a1 : Int) (a2 : Option Addr) (len2 cap2 : Nat) (z2 : List Int) (w : World) (w0 : IsPr w a0) (w1 : (Lit.int .u8 a1).wf = true) (w2 : IsRow .i64 w a2 len2 cap2 z2) :
    Calls Try.prog 4 #[.agg a0, .int .u8 a1, .slice a2 len2 cap2] w fun e w' => e = .returned (.bool true) ∧ Below w.heap.size w w' := by
  obtain ⟨⟨v, l⟩, rfl, hv, hl⟩ := w0
  have hv := i64_of_wf hv
  have hl := i64_of_wf hl
  obtain ⟨n, rfl, hn⟩ := u8_nat w1
  obtain ⟨x, hxw, hx⟩ := w2.is
  have AW : Hid (∀ W, Calls Try.prog 8 #[] W fun e w' => e = .returned (.bool true) ∧ Below W.heap.size W w') := fun W => awake_any W
  have hb0 := (Below.refl w.heap.size w).alloc (Nat.le_refl _) (.cells #[.int .i64 v, .int .i64 l] 25)
  have HE : Hid (EI w w.heap.size v l a2 len2 cap2 x (w.alloc (.cells #[.int .i64 v, .int .i64 l] 25))) := ⟨hb0, Row.new w _ _, hx.below hb0⟩
  have hlm : (len2 : Int) ≤ 9223372036854775807 := by have := hx.cap; have := hx.cmx; unfold maxLen at this; omega
  clear w1 w2 hxw hx hb0
  dsimp only at hv hl
  go_enter Try.func4, Try.ntmps4
  go_upto_region 1 with fail
  generalize (w.alloc (.cells #[.int .i64 v, .int .i64 l] 25)) = W0 at *
  go_wp2_with fail
  refine (AW.out _).mono ?_
  rintro e W1 ⟨rfl, hb⟩
  have HE1 := Lib.hid (HE.out.next hb)
  clear hb HE
  have r0 := HE1.out.row.cell 0
  have r1 := HE1.out.row.cell 1
  simp only [List.getElem?_toArray, List.getElem?_cons_zero, List.getElem?_cons_succ] at r0 r1
  by_cases hv0 : v < 0
  · have d0 : decide (v < 0) = true := by simp [hv0]
    go_wp2_with fail
    refine (AW.out _).mono ?_
    rintro e W9 ⟨rfl, hb⟩
    have HZ := Lib.hid (HE1.out.next hb)
    clear hb HE1
    go_wp2
    go_ret
    exact ⟨rfl, HZ.out.blw⟩
  · have d0 : decide (v < 0) = false := by simp [hv0]
    by_cases hl0 : l < 0
    · have d1 : decide (l < 0) = true := by simp [hl0]
      go_wp2_with fail
      refine (AW.out _).mono ?_
      rintro e W9 ⟨rfl, hb⟩
      have HZ := Lib.hid (HE1.out.next hb)
      clear hb HE1
      go_wp2
      go_ret
      exact ⟨rfl, HZ.out.blw⟩
    · have d1 : decide (l < 0) = false := by simp [hl0]
      by_cases hln : len2 < n
      · have d2 : decide ((len2 : Int) < (n : Int)) = true := by simp; omega
        go_wp2_with fail
        refine (AW.out _).mono ?_
        rintro e W9 ⟨rfl, hb⟩
        have HZ := Lib.hid (HE1.out.next hb)
        clear hb HE1
        go_wp2
        go_ret
        exact ⟨rfl, HZ.out.blw⟩
      · have d2 : decide ((len2 : Int) < (n : Int)) = false := by simp; omega
        have C := Lib.hid (pinit_any v l (n : Int) W1 (by omega) (by omega) (by omega) (by omega))
        obtain ⟨ib, hib⟩ : ∃ z, z = initP (v, l) (n : Int) := ⟨_, rfl⟩
        rw [← hib] at C
        have HIB := Lib.hid hib
        clear hib AW
        go_wp2_with fail
        refine C.out.mono ?_
        rintro e W2 ⟨rfl, hG⟩
        have HE2 := Lib.hid (HE1.out.next hG.below)
        clear hG HE1 C r0 r1
        have r0 := HE2.out.row.cell 0
        have r1 := HE2.out.row.cell 1
        simp only [List.getElem?_toArray, List.getElem?_cons_zero, List.getElem?_cons_succ] at r0 r1
        obtain ⟨gv, rfl⟩ := Int.eq_ofNat_of_zero_le (show 0 ≤ v by omega)
        obtain ⟨q, hq⟩ : ∃ q : Nat, l / 2 = (q : Int) := ⟨(l / 2).toNat, by omega⟩
        by_cases hva : gv < n
        · have hvz : (gv : Int) < (n : Int) := by omega
          obtain ⟨bx, ox, eA, hbx, hcx⟩ := HE2.out.vals.at (show gv < len2 by omega)
          subst eA
          have hgl : (gv : Int) < (len2 : Int) := by omega
          by_cases ho : l % 2 = 1
          · by_cases hqn : q < n
            · have hqz : (q : Int) < (n : Int) := by omega
              have hql : (q : Int) < (len2 : Int) := by omega
              by_cases e : q = gv
              · subst e
                obtain rfl : ib = true := by rw [HIB.out, init_a1 hvz ho]; simp [hq]
                obtain ⟨xv, hxv⟩ : ∃ z, z = x.getD q 0 := ⟨_, rfl⟩
                rw [← hxv] at hcx
                have e1 : (xv != xv) = false := by simp
                clear hxv hln
                go_wp2
                go_ret
                exact ⟨rfl, HE2.out.blw⟩
              · obtain rfl : ib = false := by rw [HIB.out, init_a1 hvz ho]; simp [hq]; omega
                obtain ⟨bx', ox', eA, hbx', hcx'⟩ := HE2.out.vals.at (show q < len2 by omega)
                injection eA with eA
                injection eA with e1 e2
                subst e1 e2
                obtain ⟨xv, hxv⟩ : ∃ z, z = x.getD gv 0 := ⟨_, rfl⟩
                obtain ⟨yv, hyv⟩ : ∃ z, z = x.getD q 0 := ⟨_, rfl⟩
                rw [← hxv] at hcx
                rw [← hyv] at hcx'
                have e1 : ((gv : Int) + 1 == (q : Int) + 1) = false := by simp; omega
                clear hxv hyv hln
                go_wp2
                go_ret
                exact ⟨rfl, HE2.out.blw⟩
            · have hqz : ¬ (q : Int) < (n : Int) := by omega
              obtain rfl : ib = false := by rw [HIB.out, init_a1 hvz ho]; simp [hq]; omega
              obtain ⟨xv, hxv⟩ : ∃ z, z = x.getD gv 0 := ⟨_, rfl⟩
              rw [← hxv] at hcx
              have e1 : ((gv : Int) + 1 == 0) = false := by simp; omega
              clear hxv hln
              go_wp2
              go_ret
              exact ⟨rfl, HE2.out.blw⟩
          · have ho0 : l % 2 = 0 := by omega
            obtain rfl : ib = false := by rw [HIB.out, init_a0 hvz ho]
            obtain ⟨xv, hxv⟩ : ∃ z, z = x.getD gv 0 := ⟨_, rfl⟩
            rw [← hxv] at hcx
            have e1 : ((gv : Int) + 1 == 0) = false := by simp; omega
            clear hxv hln
            go_wp2
            go_ret
            exact ⟨rfl, HE2.out.blw⟩
        · have hvz : ¬ (gv : Int) < (n : Int) := by omega
          by_cases ho : l % 2 = 1
          · by_cases hqn : q < n
            · have hqz : (q : Int) < (n : Int) := by omega
              have hql : (q : Int) < (len2 : Int) := by omega
              obtain rfl : ib = false := by rw [HIB.out, init_b1 hvz ho]; simp [hq]; omega
              obtain ⟨bx', ox', eA, hbx', hcx'⟩ := HE2.out.vals.at (show q < len2 by omega)
              subst eA
              obtain ⟨yv, hyv⟩ : ∃ z, z = x.getD q 0 := ⟨_, rfl⟩
              rw [← hyv] at hcx'
              have e1 : ((0 : Int) == (q : Int) + 1) = false := by simp; omega
              clear hyv hln
              go_wp2
              go_ret
              exact ⟨rfl, HE2.out.blw⟩
            · have hqz : ¬ (q : Int) < (n : Int) := by omega
              obtain rfl : ib = true := by rw [HIB.out, init_b1 hvz ho]; simp [hq]; omega
              clear hln
              go_wp2
              go_ret
              exact ⟨rfl, HE2.out.blw⟩
          · have ho0 : l % 2 = 0 := by omega
            obtain rfl : ib = true := by rw [HIB.out, init_b0 hvz ho]
            clear hln
            go_wp2
            go_ret
            exact ⟨rfl, HE2.out.blw⟩

end Go.Proofs.Ytacendjemomkfaa
