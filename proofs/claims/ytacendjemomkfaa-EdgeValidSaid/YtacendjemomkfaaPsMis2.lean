/-
  The program's Missing and Subset.
-/
import Derived.Test.YtacendjemomkfaaPsMis
namespace Go.Proofs.Ytacendjemomkfaa
open Go.RowKit
set_option linter.unusedVariables false

/-- What is left of b while Missing goes through a. -/
structure BAt (w : World) (B : Nat) (b : List Pr) (j n : Nat) (A : Option Addr) (c : Nat) : Prop where
  len : n + j = b.length
  cap : n ≤ c
  cmx : c ≤ maxLen
  see : Sees w B A (prs (b.drop j))

theorem BAt.get {w : World} {B : Nat} {b : List Pr} {j n : Nat} {A : Option Addr} {c : Nat} (h : BAt w B b j n A c) (hn : 0 < n) : ∃ bb oo, A = some ⟨bb, oo, none⟩ ∧ bb < B ∧ w.cell? ⟨bb, oo, none⟩ = some (.int .i64 (b[j]'(by have := h.len; omega)).1) ∧ w.cell? ⟨bb, oo + 1, none⟩ = some (.int .i64 (b[j]'(by have := h.len; omega)).2) := by
  have hl := h.len
  obtain ⟨bb, oo, e, hb, h0, h1⟩ := sees_pair h.see (i := 0) (by simp; omega)
  simp only [Nat.zero_mul, Nat.add_zero, List.getElem_drop] at h0 h1
  exact ⟨bb, oo, e, hb, h0, h1⟩

theorem BAt.next {w : World} {B : Nat} {b : List Pr} {j n bb oo : Nat} {c : Nat} (h : BAt w B b j (n + 1) (some ⟨bb, oo, none⟩) c) {A' : Option Addr} (hA : A' = if c = 1 then some ⟨bb, oo, none⟩ else some ⟨bb, oo + 2, none⟩) : BAt w B b (j + 1) n A' (c - 1) := by
  have hl := h.len
  have hc := h.cap
  have hm := h.cmx
  refine ⟨by omega, by omega, by omega, fun hn => ?_⟩
  have hn0 : 0 < n := by
    rcases Nat.eq_zero_or_pos n with h0 | h0
    · subst h0
      rw [List.drop_of_length_le (by omega)] at hn
      exact absurd rfl hn
    · exact h0
  rw [if_neg (by omega)] at hA
  obtain ⟨b1, o1, e, hb, hcell⟩ := h.see (by
    intro e
    have := congrArg List.length e
    rw [prs_length, List.length_drop, List.length_nil] at this
    omega)
  injection e with e
  injection e with e1 e2
  subst e1
  subst e2
  refine ⟨bb, oo + 2, hA, hb, fun i u hu => ?_⟩
  rw [Nat.add_assoc]
  refine hcell _ u ?_
  have e3 : prs (b.drop (j + 1)) = (prs (b.drop j)).drop (1 * 2) := by rw [prs_drop, List.drop_drop]
  rw [e3, List.getElem?_drop] at hu
  exact hu

theorem srt_lt_all {b : List Pr} (h : Srt b) {j : Nat} {p : Pr} (hj : j < b.length) (h1 : ∀ y ∈ b.take j, ltP y p = true) (h2 : ltP b[j] p = false) (h3 : b[j] ≠ p) : p ∉ b := by
  intro hp
  rw [← List.take_append_drop j b, List.mem_append, drop_head hj] at hp
  rcases hp with hp | hp | hp
  · have := h1 p hp
    rw [ltP_irrefl] at this
    cases this
  · exact h3 hp.symm
  · have := h.head_lt hj hp
    rw [h2] at this
    cases this

set_option maxRecDepth 100000 in
set_option maxHeartbeats 8000000 in
theorem pmissing_any (B : Nat) (A A' : Option Addr) (a b : List Pr) (c c' : Nat) (w : World) (hs : Sees w B A (prs a)) (hs' : Sees w B A' (prs b)) (hB : B ≤ w.heap.size) (hm : a.length ≤ 1000000) (hm' : b.length ≤ 1000000) (hc : b.length ≤ c') (hcm : c' ≤ maxLen) (hsa : Srt a) (hsb : Srt b) :
    Calls Try.prog 28 #[.slice A a.length c, .slice A' b.length c'] w fun e w' => e = .returned (mres (misP a b)) ∧ Below w.heap.size w w' := by
  have mixed : Try.prog.follows .mixedOrders = true := by kernel_rfl
  have hG := guard_pr
  have hR := Row.new w 25 #[.int .i64 0, .int .i64 0]
  have HWB := Lib.hid ((Below.refl w.heap.size w).alloc (Nat.le_refl _) (prObj 0 0))
  have hs1 := hs.alloc hB (prObj 0 0)
  have HSB : Hid (BAt (w.alloc (prObj 0 0)) B b 0 b.length A' c') := ⟨rfl, hc, hcm, hs'.alloc hB (prObj 0 0)⟩
  have HSA := Lib.hid hsa
  have HSB2 := Lib.hid hsb
  clear hs hs' hsa hsb hc hcm
  go_enter Try.func28, Try.ntmps28
  go_upto_region 1 with fail
  have hB1 : B ≤ (w.alloc (prObj 0 0)).heap.size := by simp; omega
  have HSZ := Lib.hid (show w.heap.size ≤ (w.alloc (prObj 0 0)).heap.size by simp)
  generalize (w.alloc (.cells #[.int .i64 0, .int .i64 0] 25)) = W0 at *
  have HR := Lib.hid hR
  clear hR
  go_wp2
  go_loopg [1, 10] a.length (fun g v1 v10 wr => ∃ (k j n : Nat) (A1 : Option Addr) (c1 : Nat), k + g = a.length ∧ v10 = .int .i64 k ∧ v1 = .slice A1 n c1 ∧ Hid (BAt W0 B b j n A1 c1) ∧ Hid (∀ y ∈ b.take j, ∀ x ∈ a.drop k, ltP y x = true) ∧ Hid (∀ x ∈ a.take k, x ∈ b) ∧ Hid (Grew W0 wr))
  case atStart => exact ⟨0, 0, b.length, A', c', by omega, by go_num, rfl, HSB.out, fun y hy => by simp at hy, fun x hx => by simp at hx, Grew.refl W0⟩
  case round =>
    obtain ⟨k, j, n, A1, c1, hg, rfl, rfl, HBT, HLO, HT, HW⟩ := hrel
    by_cases hlt : k < a.length
    · obtain ⟨b1, o1, rfl, hb, hc0, hc1⟩ := sees_pair hs1 hlt
      have f0 := HW.out.cell hc0
      have f1 := HW.out.cell hc1
      have HN : Hid (a[k] ∉ b → misP a b = some a[k]) := fun h => misP_take hlt HT.out h
      have HY : Hid (a[k] ∈ b → ∀ x ∈ a.take (k + 1), x ∈ b) := fun h x hx => ((mem_take_succ hlt).1 hx).elim (HT.out x) fun e => by subst e; exact h
      have HL0 : Hid (∀ y ∈ b.take j, ltP y a[k] = true) := fun y hy => HLO.out y hy _ ((drop_head hlt).2 (.inl rfl))
      have HL1 : Hid (∀ m, (∀ y ∈ b.take m, ltP y a[k] = true) → ∀ y ∈ b.take m, ∀ x ∈ a.drop (k + 1), ltP y x = true) := fun m h y hy x hx => ltP_trans (h y hy) (HSA.out.head_lt hlt hx)
      have hkz : (k : Int) < (a.length : Int) := by omega
      generalize a[k] = x at *
      obtain ⟨x1, x2⟩ := x
      dsimp only at f0 f1
      clear hc0 hc1
      go_upto_region 4 with fail
      have hX := Row.new wr 25 #[.int .i64 x1, .int .i64 x2]
      have HG1 := Lib.hid (HW.out.alloc (prObj x1 x2))
      clear f0 f1
      generalize (wr.alloc (.cells #[.int .i64 x1, .int .i64 x2] 25)) = W1 at *
      generalize wr.heap.size = pb at *
      have HX := Lib.hid hX
      clear hX hs1
      go_loopg [1] n (fun g2 v1 wr => ∃ (j n : Nat) (A1 : Option Addr) (c1 : Nat), n ≤ g2 ∧ v1 = .slice A1 n c1 ∧ Hid (BAt W0 B b j n A1 c1) ∧ Hid (∀ y ∈ b.take j, ltP y (x1, x2) = true) ∧ Hid (Grew W1 wr))
      case atStart => exact ⟨j, n, A1, c1, Nat.le_refl _, rfl, HBT.out, HL0.out, Grew.refl W1⟩
      case round =>
        clear HBT HLO HL0
        obtain ⟨j, n, A1, c1, hn2, rfl, HBT, HL0, HG2⟩ := hrel
        have hx := HG2.out.row HX.out
        have p0 := hx.cell 0
        have p1 := hx.cell 1
        simp only [List.getElem?_toArray, List.getElem?_cons_zero, List.getElem?_cons_succ] at p0 p1
        clear hx
        rcases n with _ | n
        · have HM := Lib.hid (HN.out fun h => by
            have hl := HBT.out.len
            have := HL0.out (x1, x2) (by rw [List.take_of_length_le (by omega)]; exact h)
            rw [ltP_irrefl] at this
            cases this)
          have HGF := Lib.hid (HG1.out.trans HG2.out)
          have hRf := HGF.out.row HR.out
          have r0 := hRf.cell 0
          have r1 := hRf.cell 1
          have q0 := hRf.frozen 0
          have q1 := hRf.frozen 1
          simp only [List.getElem?_toArray, List.getElem?_cons_zero, List.getElem?_cons_succ] at r0 r1
          clear hRf
          go_wp2_with fail
          go_quiet (fail)
          go_wp2_with fail
          go_quiet (fail)
          go_wp2
          (try simp only [Exit.inBlock, Exit.then])
          refine bodyPost_ret (v := .tuple #[.agg #[.int .i64 x1, .int .i64 x2], .bool true]) ?_ rfl ⟨?_, ?_⟩
          · rw [results_cell_tmp rfl]
            go_simp
          · rw [HM.out]
            rfl
          · exact (((HWB.out.trans ((HGF.out.drewN _).below.mono HSZ.out)).setCell (p := ⟨w.heap.size, 0, none⟩) (Nat.le_refl _) _).setCell (p := ⟨w.heap.size, 1, none⟩) (Nat.le_refl _) _)
        · obtain ⟨bb, oo, rfl, hbb, d0, d1⟩ := HBT.out.get (by omega)
          have hjb : j < b.length := by have := HBT.out.len; omega
          have HSN := Lib.hid (fun h2 h3 => HN.out (srt_lt_all HSB2.out hjb HL0.out h2 h3))
          have HYE : Hid (b[j] = (x1, x2) → (x1, x2) ∈ b) := fun h => by rw [← h]; exact List.getElem_mem _
          have HLT : Hid (ltP b[j] (x1, x2) = true → ∀ y ∈ b.take (j + 1), ltP y (x1, x2) = true) := fun h y hy => ((mem_take_succ hjb).1 hy).elim (HL0.out y) fun e => by subst e; exact h
          have e0 := (HG1.out.trans HG2.out).cell d0
          have e1 := (HG1.out.trans HG2.out).cell d1
          clear d0 d1
          generalize b[j] = y at *
          obtain ⟨y1, y2⟩ := y
          dsimp only at e0 e1
          have C1 : Hid (∀ n os, Calls Try.prog 30 #[.agg #[.int .i64 y1, .int .i64 y2], .agg #[.int .i64 x1, .int .i64 x2]] (Go.Sort.grow (wr.drewN n) os) fun e w' => e = .returned (.bool (ltP (y1, y2) (x1, x2))) ∧ ∃ q os', w' = Go.Sort.grow ((Go.Sort.grow (wr.drewN n) os).drewN q) os') := fun n os => less_any (y1, y2) (x1, x2) _
          have g0 := fun n os => Go.cell_grown (World.block_lt_of_cell? _ _ e0) e0 n os
          have g1 := fun n os => Go.cell_grown (World.block_lt_of_cell? _ _ e1) e1 n os
          have g2 := fun n os => Go.cell_grown (World.block_lt_of_cell? _ _ p0) p0 n os
          have g3 := fun n os => Go.cell_grown (World.block_lt_of_cell? _ _ p1) p1 n os
          generalize ltP (y1, y2) (x1, x2) = bl at *
          cases bl
          · have HSN2 := Lib.hid (HSN.out rfl)
            clear HSN HLT
            have hq : ∀ W, (binOp .neq 25 (.agg #[.int .i64 y1, .int .i64 y2]) (.agg #[.int .i64 x1, .int .i64 x2])).run Try.prog W = .ok (.bool (!decide (((y1, y2) : Pr) = (x1, x2)))) W := fun W => neq_pr (y1, y2) (x1, x2) W
            go_wp2_with fail
            go_quiet_grown (first | (go_at_call 30; refine Calls.grown_of (C1.out _ _)))
            go_upto_region 6 with fail
            have HGF := Lib.hid ((HG1.out.trans HG2.out).trans ⟨nq, osq, rfl⟩)
            have e0' := g0 nq osq
            have e1' := g1 nq osq
            have p0' := g2 nq osq
            have p1' := g3 nq osq
            clear g0 g1 g2 g3 e0 e1 p0 p1 C1
            generalize Go.Sort.grow (wr.drewN nq) osq = W2 at *
            have ez : (((n : Int) + 1) == 0) = false := by simp; omega
            have ez2 : ¬ ((n : Int) + 1 = 0) := by omega
            have hn0 : (0 : Int) < (n : Int) + 1 := by omega
            by_cases hxe : ((y1, y2) : Pr) = (x1, x2)
            · rw [show (!decide (((y1, y2) : Pr) = (x1, x2))) = false by simp [hxe]] at hq
              have HT2 := Lib.hid (HY.out (HYE.out hxe))
              have HL2 := Lib.hid (HL1.out j HL0.out)
              clear hxe
              go_wp2_with fail
              go_quiet (fail)
              go_wp2
              go_roundg (a.length - (k + 1))
              case measure => omega
              case rel => exact ⟨k + 1, j, n + 1, _, c1, by omega, by go_num, rfl, HBT.out, HL2.out, HT2.out, HGF.out.drewN _⟩
            · rw [show (!decide (((y1, y2) : Pr) = (x1, x2))) = true by simp [hxe]] at hq
              have HM := Lib.hid (HSN2.out hxe)
              clear hxe
              have hRf := HGF.out.row HR.out
              have r0 := hRf.cell 0
              have r1 := hRf.cell 1
              have q0 := hRf.frozen 0
              have q1 := hRf.frozen 1
              simp only [List.getElem?_toArray, List.getElem?_cons_zero, List.getElem?_cons_succ] at r0 r1
              clear hRf
              go_wp2_with fail
              go_quiet (fail)
              go_wp2
              (try simp only [Exit.inBlock, Exit.then])
              refine bodyPost_ret (v := .tuple #[.agg #[.int .i64 x1, .int .i64 x2], .bool true]) ?_ rfl ⟨?_, ?_⟩
              · rw [results_cell_tmp rfl]
                go_simp
              · rw [HM.out]
                rfl
              · exact (((HWB.out.trans ((HGF.out.drewN _).below.mono HSZ.out)).setCell (p := ⟨w.heap.size, 0, none⟩) (Nat.le_refl _) _).setCell (p := ⟨w.heap.size, 1, none⟩) (Nat.le_refl _) _)
          · have HL2 := Lib.hid (HLT.out rfl)
            obtain ⟨A2, hite⟩ : ∃ z, (if c1 = 1 then (some ⟨bb, oo, none⟩ : Option Addr) else some ⟨bb, oo + 2, none⟩) = z := ⟨_, rfl⟩
            have HB2 := Lib.hid (HBT.out.next hite.symm)
            have hn0 : (0 : Int) < (n : Int) + 1 := by omega
            go_wp2_with fail
            go_quiet_grown (first | (go_at_call 30; refine Calls.grown_of (C1.out _ _)))
            go_upto_region 5 with fail
            have HGF := Lib.hid (HG2.out.trans ⟨nq, osq, rfl⟩)
            clear g0 g1 g2 g3 e0 e1 p0 p1 C1
            generalize Go.Sort.grow (wr.drewN nq) osq = W2 at *
            go_wp2
            go_roundg n
            case measure => omega
            case rel => exact ⟨j + 1, n, A2, c1 - 1, Nat.le_refl _, rfl, HB2.out, HL2.out, HGF.out⟩
    · have HM : Hid (misP a b = none) := misP_none.2 (by have := HT.out; rw [List.take_of_length_le (by omega)] at this; exact this)
      have hkz : ¬ (k : Int) < (a.length : Int) := by omega
      have hRf := HW.out.row HR.out
      have r0 := hRf.cell 0
      have r1 := hRf.cell 1
      have q0 := hRf.frozen 0
      have q1 := hRf.frozen 1
      simp only [List.getElem?_toArray, List.getElem?_cons_zero, List.getElem?_cons_succ] at r0 r1
      clear hRf
      have HGF := HW
      clear hs1
      go_wp2
      (try simp only [Exit.inBlock, Exit.then])
      refine bodyPost_ret (v := .tuple #[.agg #[.int .i64 0, .int .i64 0], .bool false]) ?_ rfl ⟨?_, ?_⟩
      · rw [results_cell_tmp rfl]
        go_simp
      · rw [HM.out]
        rfl
      · exact (((HWB.out.trans (HW.out.below.mono HSZ.out)).setCell (p := ⟨w.heap.size, 0, none⟩) (Nat.le_refl _) _).setCell (p := ⟨w.heap.size, 1, none⟩) (Nat.le_refl _) _)

end Go.Proofs.Ytacendjemomkfaa
