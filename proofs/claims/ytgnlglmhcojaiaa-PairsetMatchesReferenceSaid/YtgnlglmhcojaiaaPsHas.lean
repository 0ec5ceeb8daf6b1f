/-
  Has of the program: the library's binary search, with the program's comparison.
-/
import Derived.Test.YtgnlglmhcojaiaaPsOwn
namespace Go.Proofs.Ytgnlglmhcojaiaa
open Go.RowKit
set_option linter.unusedVariables false

/-- What the search knows: all before i are less, none from j on. -/
structure BS (l : List Pr) (p : Pr) (i j : Nat) : Prop where
  lo : ∀ t, (h : t < l.length) → t < i → ltP l[t] p = true
  hi : ∀ t, (h : t < l.length) → j ≤ t → ltP l[t] p = false

theorem BS.left {l : List Pr} {p : Pr} {i j h : Nat} (hs : Srt l) (b : BS l p i j) (hh : h < l.length) (hl : ltP l[h] p = true) : BS l p (h + 1) j :=
  ⟨fun t ht hti => by
    rcases Nat.lt_or_ge t h with h1 | h1
    · exact ltP_trans (hs.lt h1 hh) hl
    · obtain rfl : t = h := by omega
      exact hl, b.hi⟩
theorem BS.right {l : List Pr} {p : Pr} {i j h : Nat} (hs : Srt l) (b : BS l p i j) (hh : h < l.length) (hl : ltP l[h] p = false) : BS l p i h :=
  ⟨b.lo, fun t ht hti => by
    rcases Nat.lt_or_ge h t with h1 | h1
    · rcases Bool.eq_false_or_eq_true (ltP l[t] p) with e | e
      · have := ltP_trans (hs.lt h1 ht) e
        rw [hl] at this
        cases this
      · exact e
    · obtain rfl : t = h := by omega
      exact hl⟩
theorem BS.none {l : List Pr} {p : Pr} {i : Nat} (b : BS l p i i) (hi : l.length ≤ i) : hasP l p = false := by
  refine decide_eq_false fun hp => ?_
  obtain ⟨t, ht, e⟩ := List.getElem_of_mem hp
  have := b.lo t ht (by omega)
  rw [e, ltP_irrefl] at this
  cases this
theorem BS.some {l : List Pr} {p : Pr} {i : Nat} (hs : Srt l) (b : BS l p i i) (hi : i < l.length) : hasP l p = decide (l[i] = p) := by
  by_cases h : l[i] = p
  · rw [decide_eq_true h, ← h]
    exact decide_eq_true (List.getElem_mem _)
  · rw [decide_eq_false h]
    refine decide_eq_false fun hp => ?_
    obtain ⟨t, ht, e⟩ := List.getElem_of_mem hp
    rcases Nat.lt_or_ge t i with h1 | h1
    · have := b.lo t ht h1
      rw [e, ltP_irrefl] at this
      cases this
    · rcases Nat.lt_or_ge i t with h2 | h2
      · have h3 := hs.lt h2 ht
        rw [e] at h3
        have := b.hi i hi (Nat.le_refl _)
        rw [h3] at this
        cases this
      · obtain rfl : t = i := by omega
        exact h e

set_option maxRecDepth 100000 in
set_option maxHeartbeats 4000000 in
theorem search_any (B : Nat) (A : Option Addr) (l : List Pr) (c : Nat) (p : Pr) (w : World) (hs : Sees w B A (prs l)) (hB : B ≤ w.heap.size) (hm : l.length ≤ 1000000) (hsl : Srt l) :
    Calls Try.prog 32 #[.slice A l.length c, .agg #[.int .i64 p.1, .int .i64 p.2], .func (.func 30) #[] #[]] w fun e w' => (∃ i : Int, e = .returned (.tuple #[.int .i64 i, .bool (hasP l p)])) ∧ Grew w w' := by
  have mixed : Try.prog.follows .mixedOrders = true := by kernel_rfl
  have hK : ∀ args W, (callFunc 30 args).run Try.prog W = .ok (.enter 30 args) W := fun args W => enters_of Try.func30 (by kernel_rfl) rfl args W
  obtain ⟨p1, p2⟩ := p
  dsimp only
  have HSL := Lib.hid hsl
  have hA := (Row.new w 25 #[.int .i64 p1, .int .i64 p2])
  have HG := Lib.hid ((Grew.refl w).alloc (prObj p1 p2))
  have hs1 := hs.alloc hB (prObj p1 p2)
  clear hs hsl
  go_enter Try.func32, Try.ntmps32
  go_upto_region 1 with fail
  generalize (w.alloc (.cells #[.int .i64 p1, .int .i64 p2] 25)) = W0 at *
  have HA := Lib.hid hA
  clear hA
  go_wp2
  go_loopg [9, 10] l.length (fun g v9 v10 wr => ∃ i j : Nat, i ≤ j ∧ j ≤ l.length ∧ j - i ≤ g ∧ v9 = .int .i64 i ∧ v10 = .int .i64 j ∧ Hid (BS l (p1, p2) i j) ∧ Hid (Grew W0 wr))
  case atStart => exact ⟨0, l.length, Nat.zero_le _, Nat.le_refl _, by omega, by go_num, rfl, ⟨fun t _ h => by omega, fun t h h2 => by omega⟩, Grew.refl W0⟩
  case round =>
    obtain ⟨i, j, hij, hjl, hg, rfl, rfl, HB, HW⟩ := hrel
    by_cases hlt : i < j
    · have hz : (i : Int) < (j : Int) := by omega
      obtain ⟨h, hh, hih, hhj⟩ : ∃ h : Nat, ((i : Int) + j) / 2 = h ∧ i ≤ h ∧ h < j := ⟨(i + j) / 2, by omega, by omega, by omega⟩
      have hhl : h < l.length := by omega
      have hhz : (h : Int) < (l.length : Int) := by omega
      have HH := Lib.hid hh
      clear hh
      go_upto_region 5 with fail
      rw [HH.out]
      clear HH
      obtain ⟨b, o, rfl, hb, hc0, hc1⟩ := sees_pair hs1 hhl
      have hx := HW.out.row HA.out
      have p0 := hx.cell 0
      have p1' := hx.cell 1
      simp only [List.getElem?_toArray, List.getElem?_cons_zero, List.getElem?_cons_succ] at p0 p1'
      have e0 := HW.out.cell hc0
      have e1 := HW.out.cell hc1
      have HL := Lib.hid fun h' => HB.out.left HSL.out hhl h'
      have HR := Lib.hid fun h' => HB.out.right HSL.out hhl h'
      clear hx hc0 hc1 hs1
      generalize l[h] = y at *
      obtain ⟨y1, y2⟩ := y
      dsimp only at e0 e1
      have C1 : Hid (∀ n os, Calls Try.prog 30 #[.agg #[.int .i64 y1, .int .i64 y2], .agg #[.int .i64 p1, .int .i64 p2]] (Go.Sort.grow (wr.drewN n) os) fun e w' => e = .returned (.int .i64 (cmpP (y1, y2) (p1, p2))) ∧ ∃ q os', w' = Go.Sort.grow ((Go.Sort.grow (wr.drewN n) os).drewN q) os') := fun n os => compare_any (y1, y2) (p1, p2) _
      have g0 := fun n os => Go.cell_grown (World.block_lt_of_cell? _ _ e0) e0 n os
      have g1 := fun n os => Go.cell_grown (World.block_lt_of_cell? _ _ e1) e1 n os
      have g2 := fun n os => Go.cell_grown (World.block_lt_of_cell? _ _ p0) p0 n os
      have g3 := fun n os => Go.cell_grown (World.block_lt_of_cell? _ _ p1') p1' n os
      clear e0 e1 p0 p1'
      have hlt0 := cmpP_lt (y1, y2) (p1, p2)
      generalize cmpP (y1, y2) (p1, p2) = r at *
      generalize ltP (y1, y2) (p1, p2) = bl at *
      cases bl
      · have HR2 := Lib.hid (HR.out rfl)
        have hr : ¬ r < 0 := of_decide_eq_false hlt0
        clear hlt0 HL HR
        go_wp2_with fail
        go_quiet_grown (first | (go_at_call 30; refine Calls.grown_of (C1.out _ _)))
        go_wp2
        go_roundg (h - i)
        case measure => omega
        case rel => exact ⟨i, h, by omega, by omega, Nat.le_refl _, rfl, rfl, HR2.out, HW.out.trans ⟨_, _, rfl⟩⟩
      · have HL2 := Lib.hid (HL.out rfl)
        have hr : r < 0 := of_decide_eq_true hlt0
        clear hlt0 HL HR
        go_wp2_with fail
        go_quiet_grown (first | (go_at_call 30; refine Calls.grown_of (C1.out _ _)))
        go_wp2
        go_roundg (j - (h + 1))
        case measure => omega
        case rel => exact ⟨h + 1, j, by omega, by omega, Nat.le_refl _, by go_num, rfl, HL2.out, HW.out.trans ⟨_, _, rfl⟩⟩
    · obtain rfl : i = j := by omega
      have hz : ¬ (i : Int) < (i : Int) := by omega
      by_cases hil : i < l.length
      · have hiz : (i : Int) < (l.length : Int) := by omega
        have HE := Lib.hid (HB.out.some HSL.out hil)
        obtain ⟨b, o, rfl, hb, hc0, hc1⟩ := sees_pair hs1 hil
        have hx := HW.out.row HA.out
        have p0 := hx.cell 0
        have p1' := hx.cell 1
        simp only [List.getElem?_toArray, List.getElem?_cons_zero, List.getElem?_cons_succ] at p0 p1'
        have e0 := HW.out.cell hc0
        have e1 := HW.out.cell hc1
        clear hx hc0 hc1 hs1
        generalize l[i] = y at *
        obtain ⟨y1, y2⟩ := y
        dsimp only at e0 e1
        have C1 : Hid (∀ n os, Calls Try.prog 30 #[.agg #[.int .i64 y1, .int .i64 y2], .agg #[.int .i64 p1, .int .i64 p2]] (Go.Sort.grow (wr.drewN n) os) fun e w' => e = .returned (.int .i64 (cmpP (y1, y2) (p1, p2))) ∧ ∃ q os', w' = Go.Sort.grow ((Go.Sort.grow (wr.drewN n) os).drewN q) os') := fun n os => compare_any (y1, y2) (p1, p2) _
        have g0 := fun n os => Go.cell_grown (World.block_lt_of_cell? _ _ e0) e0 n os
        have g1 := fun n os => Go.cell_grown (World.block_lt_of_cell? _ _ e1) e1 n os
        have g2 := fun n os => Go.cell_grown (World.block_lt_of_cell? _ _ p0) p0 n os
        have g3 := fun n os => Go.cell_grown (World.block_lt_of_cell? _ _ p1') p1' n os
        clear e0 e1 p0 p1'
        have HZ := Lib.hid (cmpP_zero (y1, y2) (p1, p2))
        generalize cmpP (y1, y2) (p1, p2) = r at *
        go_wp2_with fail
        go_quiet_grown (first | (go_at_call 30; refine Calls.grown_of (C1.out _ _)))
        go_wp2
        go_ret2
        rw [HE.out, ← HZ.out]
        exact ⟨⟨_, rfl⟩, (HG.out.trans HW.out).trans ⟨_, _, rfl⟩⟩
      · have HE := Lib.hid (HB.out.none (by omega))
        have hiz : ¬ (i : Int) < (l.length : Int) := by omega
        clear hs1
        go_wp2_with fail
        go_quiet (fail)
        go_wp2
        go_ret2
        rw [HE.out]
        exact ⟨⟨_, rfl⟩, (HG.out.trans HW.out).drewN _⟩

set_option maxRecDepth 100000 in
set_option maxHeartbeats 4000000 in
theorem phas_any (B : Nat) (A : Option Addr) (l : List Pr) (c : Nat) (p : Pr) (w : World) (hs : Sees w B A (prs l)) (hB : B ≤ w.heap.size) (hm : l.length ≤ 1000000) (hsl : Srt l) :
    Calls Try.prog 17 #[.slice A l.length c, .agg #[.int .i64 p.1, .int .i64 p.2]] w fun e w' => e = .returned (.bool (hasP l p)) ∧ Grew w w' := by
  obtain ⟨p1, p2⟩ := p
  dsimp only
  have hA := (Row.new w 25 #[.int .i64 p1, .int .i64 p2])
  have HG := Lib.hid ((Grew.refl w).alloc (prObj p1 p2))
  have C1 := Lib.hid (search_any B A l c (p1, p2) _ (hs.alloc hB (prObj p1 p2)) (by simp; omega) hm hsl)
  dsimp only at C1
  clear hs hsl
  have a0 := hA.cell 0
  have a1 := hA.cell 1
  simp only [List.getElem?_toArray, List.getElem?_cons_zero, List.getElem?_cons_succ] at a0 a1
  clear hA
  generalize hasP l (p1, p2) = r at *
  go_enter Try.func17, Try.ntmps17
  go_wp2_with fail
  refine C1.out.mono ?_
  rintro e W1 ⟨⟨i, rfl⟩, hG⟩
  have HG1 := Lib.hid hG
  clear hG
  go_wp2
  go_ret
  exact ⟨rfl, HG.out.trans HG1.out⟩

end Go.Proofs.Ytgnlglmhcojaiaa
