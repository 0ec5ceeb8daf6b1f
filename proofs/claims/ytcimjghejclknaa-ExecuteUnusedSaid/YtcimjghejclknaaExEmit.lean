/-
  The program's emit (written by wip/lab/genxemit.py).
-/
import Derived.Test.YtcimjghejclknaaExMov
import Derived.Test.YtcimjghejclknaaPk1
namespace Go.Proofs.Ytcimjghejclknaa
open Go.RowKit
set_option linter.unusedVariables false
set_option linter.unusedSimpArgs false

/-- What emit reads stays as it was: behind the new cell, the append, the store. -/
theorem Xp.emitS {W : World} {lo q g a h : Nat} {T T' : TypeId} {ex : List Value} {SA TA : Option Addr} {rc sc tc : Nat} {r : Xn} {cs : Array Value} {x : Int} (hI : Xp W lo q T ex (some ⟨g, 0, none⟩) rc SA sc TA tc r) (hx : Row W h T' cs) (hT : 2 ≠ T') (hc : cs[2]? = some (.int .i64 (a : Int))) (ha : a < r.regs.length) (hv : rg r.regs (a : Int) = x) :
    (W.cell? ⟨q, 4, none⟩ = some (.slice (some ⟨g, 0, none⟩) r.regs.length rc) ∧ W.cell? ⟨h, 2, none⟩ = some (.int .i64 (a : Int)) ∧ W.cell? ⟨g, a, none⟩ = some (.int .i64 x)) ∧ ((W.alloc (.cells #[.int .i64 x] 2)).cell? ⟨q, 4, none⟩ = some (.slice (some ⟨g, 0, none⟩) r.regs.length rc) ∧ (W.alloc (.cells #[.int .i64 x] 2)).cell? ⟨h, 2, none⟩ = some (.int .i64 (a : Int)) ∧ (W.alloc (.cells #[.int .i64 x] 2)).cell? ⟨g, a, none⟩ = some (.int .i64 x)) ∧ ∀ W1, (W.alloc (.cells #[.int .i64 x] 2)).grownBy W1 (Value.slice TA r.trace.length tc).ownBlock → (W1.cell? ⟨q, 4, none⟩ = some (.slice (some ⟨g, 0, none⟩) r.regs.length rc) ∧ W1.cell? ⟨h, 2, none⟩ = some (.int .i64 (a : Int)) ∧ W1.cell? ⟨g, a, none⟩ = some (.int .i64 x)) ∧ ∀ u, (W1.setCell ⟨q, 6, none⟩ u).cell? ⟨q, 4, none⟩ = some (.slice (some ⟨g, 0, none⟩) r.regs.length rc) ∧ (W1.setCell ⟨q, 6, none⟩ u).cell? ⟨h, 2, none⟩ = some (.int .i64 (a : Int)) ∧ (W1.setCell ⟨q, 6, none⟩ u).cell? ⟨g, a, none⟩ = some (.int .i64 x) := by
  obtain ⟨_, _, _, _, p4, _, _, _⟩ := hI.cells
  have p2 := (hx.cell 2).trans hc
  have pg := hI.v.regc ha
  rw [hv] at pg
  have hq := hI.row.lt
  have hh := hx.lt
  have hgl := (ownS_lt hI.v.regs g rfl).2
  have hgq := hI.nr g rfl
  refine ⟨⟨p4, p2, pg⟩, ⟨(World.cell?_alloc_lt W _ ⟨q, 4, none⟩ hq).trans p4, (World.cell?_alloc_lt W _ ⟨h, 2, none⟩ hh).trans p2, (World.cell?_alloc_lt W _ ⟨g, a, none⟩ hgl).trans pg⟩, fun W1 hg => ?_⟩
  have hK : ∀ p : Addr, p.block < W.heap.size → (∀ k, (Value.slice TA r.trace.length tc).ownBlock = some k → ¬ p.block = k) → W1.heap[p.block]? = W.heap[p.block]? := fun p hp hn =>
    (hg.block p.block (by simp; omega) fun e => hn _ e.symm rfl).trans (Below.heap_alloc W _ p.block hp)
  have k4 := (World.cell?_of_block (hK ⟨q, 4, none⟩ hq fun k hk e => hI.nt k hk e.symm)).trans p4
  have k2 := (World.cell?_of_block (hK ⟨h, 2, none⟩ hh fun k hk e => own_row_ne hI.v.trace hx hT k hk e.symm)).trans p2
  have kg := (World.cell?_of_block (hK ⟨g, a, none⟩ hgl fun k hk e => hI.v.rt g rfl (by rw [hk]; exact congrArg some e.symm))).trans pg
  refine ⟨⟨k4, k2, kg⟩, fun u => ⟨(World.cell?_setCell_other _ _ _ _ (by simp)).trans k4, ?_, (World.cell?_setCell_other _ _ _ _ (by simp [hgq.symm])).trans kg⟩⟩
  by_cases e : (⟨q, 6, none⟩ : Addr) = ⟨h, 2, none⟩
  · simp at e
  · exact (World.cell?_setCell_other _ _ _ _ e).trans k2

set_option maxRecDepth 100000 in
set_option maxHeartbeats 4000000 in
theorem xemit_any (i : Mi) (r : Xn) (lo q : Nat) (ex : List Value) (RA SA TA : Option Addr) (rc sc tc : Nat) (w : World) (hI : Xp w lo q exT ex RA rc SA sc TA tc r) (ha0 : 0 ≤ i.a) (ha1 : i.a < r.regs.length) (htr : r.trace.length ≤ 1000000) (hrl : r.regs.length ≤ 1000000) :
    Calls Try.prog 46 #[.pointer (some ⟨q, 0, none⟩), .agg #[.int .i64 i.op, .int .i64 i.d, .int .i64 i.a, .int .i64 i.b, .int .i64 i.imm, .int .i64 i.dst, .int .i64 i.src]] w fun e w' => e = .returned (.bool true) ∧ ∃ A1 c1, Xp w' lo q exT ex RA rc SA sc A1 c1 { r with trace := r.trace ++ [rg r.regs i.a] } ∧ Below lo w w' := by
  obtain ⟨i0, hi, hz0, hz1, hz2⟩ := info_parts infoI64
  have hql : q < w.heap.size := hI.row.lt
  have hlq := hI.lt
  have hb0 := (Below.refl w.heap.size w).alloc (Nat.le_refl _) (.cells #[.int .i64 i.op, .int .i64 i.d, .int .i64 i.a, .int .i64 i.b, .int .i64 i.imm, .int .i64 i.dst, .int .i64 i.src] 52)
  have hI0 := hI.next hb0
  have hbx := Row.new w 52 #[.int .i64 i.op, .int .i64 i.d, .int .i64 i.a, .int .i64 i.b, .int .i64 i.imm, .int .i64 i.dst, .int .i64 i.src]
  have hB0 := hb0.mono (B' := lo) (by omega)
  obtain ⟨a, ha⟩ := Int.eq_ofNat_of_zero_le ha0
  obtain ⟨op, d, ia, b, imm, dst, src⟩ := i
  dsimp only at *
  subst ha
  have han : a < r.regs.length := by omega
  obtain ⟨g, rfl, _⟩ := regs_at hI0.v.regs han
  have HK0 := Lib.hid (hI0.emitS hbx (by decide) (by kernel_rfl) han rfl).1
  have HBX := Lib.hid hbx
  have hbl : w.heap.size < (w.alloc (.cells #[.int .i64 op, .int .i64 d, .int .i64 (a : Int), .int .i64 b, .int .i64 imm, .int .i64 dst, .int .i64 src] 52)).heap.size := hbx.lt
  obtain ⟨_, _, _, _, q4, _, q6, _⟩ := hI0.cells
  have HP := Lib.hid (And.intro hI0 hB0)
  clear hI hI0 hbx hb0 hB0 ha0 ha1
  go_enter Try.func46, Try.ntmps46
  go_upto_region 1 with fail
  generalize w.alloc (.cells #[.int .i64 op, .int .i64 d, .int .i64 (a : Int), .int .i64 b, .int .i64 imm, .int .i64 dst, .int .i64 src] 52) = W0 at *
  have C1 := Lib.hid ((register_any a q g r.regs.length rc W0.drew q4 han hrl).mono fun e w' ⟨he, n, hb⟩ => (⟨he, hb ▸ (Drawn.refl W0).drew.drewN n⟩ : e = _ ∧ Drawn W0 w'))
  generalize hX : rg r.regs (a : Int) = x at *
  have HXX := Lib.hid hX
  clear hX
  refine wp_region_held_drew (S := (fun w' => w'.cell? ⟨q, 4, none⟩ = some (.slice (some ⟨g, 0, none⟩) r.regs.length rc) ∧ w'.cell? ⟨w.heap.size, 2, none⟩ = some (.int .i64 (a : Int)) ∧ w'.cell? ⟨g, a, none⟩ = some (.int .i64 x))) (by kernel_rfl) HK0.out (fun hHeld => ?_)
  refine take_at 0 5 (.pointer (some ⟨q, 0, none⟩)) rfl rfl (by kernel_rfl) (by kernel_rfl) (by kernel_rfl) (fun _ _ _ h => h) (Or.inl ⟨by rfl, ?_⟩) hHeld ?_
  · intro w9 hSw
    (try dsimp only at hSw)
    go_simp
  (try simp only [Act.put, List.setIfInBounds_toArray, List.set_cons_zero, List.set_cons_succ])
  refine take_at 1 6 (.pointer (some ⟨q, 0, none⟩)) rfl rfl (by kernel_rfl) (by kernel_rfl) (by kernel_rfl) (fun _ _ _ h => h) (Or.inl ⟨by rfl, ?_⟩) hHeld ?_
  · intro w9 hSw
    (try dsimp only at hSw)
    go_simp
  (try simp only [Act.put, List.setIfInBounds_toArray, List.set_cons_zero, List.set_cons_succ])
  refine take_at 2 7 (.pointer (some ⟨q, 0, none⟩)) rfl rfl (by kernel_rfl) (by kernel_rfl) (by kernel_rfl) (fun _ _ _ h => h) (Or.inl ⟨by rfl, ?_⟩) hHeld ?_
  · intro w9 hSw
    (try dsimp only at hSw)
    go_simp
  (try simp only [Act.put, List.setIfInBounds_toArray, List.set_cons_zero, List.set_cons_succ])
  refine take_at 3 8 (.pointer (some ⟨q, 0, none⟩)) rfl rfl (by kernel_rfl) (by kernel_rfl) (by kernel_rfl) (fun _ _ _ h => h) (Or.inl ⟨by rfl, ?_⟩) hHeld ?_
  · intro w9 hSw
    (try dsimp only at hSw)
    go_simp
  (try simp only [Act.put, List.setIfInBounds_toArray, List.set_cons_zero, List.set_cons_succ])
  refine take_at 4 9 (.pointer (some ⟨q, 6, none⟩)) rfl rfl (by kernel_rfl) (by kernel_rfl) (by kernel_rfl) (fun _ _ _ h => h) (Or.inl ⟨by rfl, ?_⟩) hHeld ?_
  · intro w9 hSw
    (try dsimp only at hSw)
    go_simp
  (try simp only [Act.put, List.setIfInBounds_toArray, List.set_cons_zero, List.set_cons_succ])
  refine take_at 6 11 (.pointer (some ⟨q, 0, none⟩)) rfl rfl (by kernel_rfl) (by kernel_rfl) (by kernel_rfl) (fun _ _ _ h => h) (Or.inl ⟨by rfl, ?_⟩) hHeld ?_
  · intro w9 hSw
    (try dsimp only at hSw)
    go_simp
  (try simp only [Act.put, List.setIfInBounds_toArray, List.set_cons_zero, List.set_cons_succ])
  refine take_at 7 12 (.pointer (some ⟨w.heap.size, 2, none⟩)) rfl rfl (by kernel_rfl) (by kernel_rfl) (by kernel_rfl) (fun _ _ _ h => h) (Or.inl ⟨by rfl, ?_⟩) hHeld ?_
  · intro w9 hSw
    (try dsimp only at hSw)
    go_simp
  (try simp only [Act.put, List.setIfInBounds_toArray, List.set_cons_zero, List.set_cons_succ])
  refine take_at 8 13 (.int .i64 a) rfl rfl (by kernel_rfl) (by kernel_rfl) (by kernel_rfl) (fun _ _ _ h => h) (Or.inl ⟨by rfl, ?_⟩) hHeld ?_
  · intro w9 hSw
    (try dsimp only at hSw)
    go_simp
  (try simp only [Act.put, List.setIfInBounds_toArray, List.set_cons_zero, List.set_cons_succ])
  refine wpAnyH_ready (rs := [5, 9]) (by kernel_rfl) (by simp) ?_
  refine AllReadyH.cons rfl (fun K hK => ?_) ?_
  · go_simp
    refine hK.out _ _ HK0.out (fun hHeld => ?_)
    clear hK K
    refine wpAnyH_ready (rs := [9]) (by kernel_rfl) (by simp) ?_
    refine AllReadyH.cons rfl (fun K hK => ?_) ?_
    · go_simp
      refine C1.out.mono ?_
      rintro e W3 ⟨rfl, hG⟩
      (try go_wp2_with fail)
      have hI3 := HP.out.1.next (hG.below _)
      have HE3 := Lib.hid (hI3.emitS (HBX.out.below (hG.below (w.heap.size + 1)) (by omega)) (by decide) (by kernel_rfl) han HXX.out)
      have HSX := Lib.hid (sees_new W3 #[.int .i64 x] 2)
      have HOA := Lib.hid (((Mods.refl No W3).alloc (.cells #[.int .i64 x] 2)).ownS hI3.v.trace fun _ _ h => h)
      have HAP := Lib.hid fun (W1 : World) (A1 : Option Addr) (c1 : Nat) hg ho ha => hI3.app x (.cells #[.int .i64 x] 2) (W := W1) (A1 := A1) (c1 := c1) hg ho ha
      obtain ⟨_, _, _, _, p4, _, p6, _⟩ := hI3.cells
      have hlo1 : lo ≤ (W3.alloc (.cells #[.int .i64 x] 2)).heap.size := by have := hI3.lt; have := hI3.row.lt; simp; omega
      have hq3 : q < W3.heap.size := hI3.row.lt
      clear hI3
      refine hK.out _ _ HE3.out.1 (fun hHeld => ?_)
      clear hK K
      refine take_at 10 15 (.pointer (some ⟨g, a, none⟩)) rfl rfl (by kernel_rfl) (by kernel_rfl) (by kernel_rfl) (fun _ _ _ h => h) (Or.inl ⟨by rfl, ?_⟩) hHeld ?_
      · intro w9 hSw
        (try dsimp only at hSw)
        go_simp
      (try simp only [Act.put, List.setIfInBounds_toArray, List.set_cons_zero, List.set_cons_succ])
      refine take_at 11 16 (.int .i64 x) rfl rfl (by kernel_rfl) (by kernel_rfl) (by kernel_rfl) (fun _ _ _ h => h) (Or.inl ⟨by rfl, ?_⟩) hHeld ?_
      · intro w9 hSw
        (try dsimp only at hSw)
        go_simp
      (try simp only [Act.put, List.setIfInBounds_toArray, List.set_cons_zero, List.set_cons_succ])
      refine wpAnyH_ready (rs := [12]) (by kernel_rfl) (by simp) ?_
      refine AllReadyH.cons rfl (fun K hK => ?_) ?_
      · go_simp
        refine hK.out _ _ HE3.out.2.1 (fun hHeld => ?_)
        clear hK K
        refine wpAnyH_ready (rs := [13]) (by kernel_rfl) (by simp) ?_
        refine AllReadyH.cons rfl (fun K hK => ?_) ?_
        · refine step_append_any _ rfl (.tmp 10) (.tmp 17) 25 rfl lo 2 i0 _ 1 8 Try.underlying25 hi hz0 hz1 hz2 rfl (by decide) (.slice TA r.trace.length tc) r.trace.length (ints r.trace) rfl HOA.out (W3.heap.size + 1) (some ⟨W3.heap.size, 0, none⟩) 1 1 (ints [x]) rfl HSX.out rfl (ints_one _) (by unfold maxLen; omega) (by omega) hlo1 ?_
          intro v1 W1 ho1 hg1 ha1
          obtain ⟨A1, c1, rfl, _, _⟩ := ownS_slice ho1
          have hgg : World.grownBy (W3.alloc (.cells #[.int .i64 x] 2)) W1 (Value.slice TA r.trace.length tc).ownBlock := ⟨hg1.os, hg1.tape, hg1.output, hg1.size, hg1.block⟩
          obtain ⟨hrow, hI2, hbl2⟩ := HAP.out W1 A1 c1 hgg (by rw [ints_append]; exact ho1) ha1
          have f6 : W1.cell? ⟨q, 6, none⟩ = some (.slice TA r.trace.length tc) := by rw [hrow.cell]; rfl
          have r6 := hrow.frozen 6
          have HI2 := Lib.hid (And.intro hI2 hbl2)
          have HKW := Lib.hid (HE3.out.2.2 W1 hgg)
          clear ho1 hg1 ha1 hgg hrow hI2 hbl2
          refine hK.out _ _ HKW.out.1 (fun hHeld => ?_)
          clear hK K
          refine take_at 14 19 (.pointer (some ⟨q, 0, none⟩)) rfl rfl (by kernel_rfl) (by kernel_rfl) (by kernel_rfl) (fun _ _ _ h => h) (Or.inl ⟨by rfl, ?_⟩) hHeld ?_
          · intro w9 hSw
            (try dsimp only at hSw)
            go_simp
          (try simp only [Act.put, List.setIfInBounds_toArray, List.set_cons_zero, List.set_cons_succ])
          refine take_at 15 20 (.pointer (some ⟨q, 0, none⟩)) rfl rfl (by kernel_rfl) (by kernel_rfl) (by kernel_rfl) (fun _ _ _ h => h) (Or.inl ⟨by rfl, ?_⟩) hHeld ?_
          · intro w9 hSw
            (try dsimp only at hSw)
            go_simp
          (try simp only [Act.put, List.setIfInBounds_toArray, List.set_cons_zero, List.set_cons_succ])
          refine take_at 16 21 (.pointer (some ⟨q, 6, none⟩)) rfl rfl (by kernel_rfl) (by kernel_rfl) (by kernel_rfl) (fun _ _ _ h => h) (Or.inl ⟨by rfl, ?_⟩) hHeld ?_
          · intro w9 hSw
            (try dsimp only at hSw)
            go_simp
          (try simp only [Act.put, List.setIfInBounds_toArray, List.set_cons_zero, List.set_cons_succ])
          refine wpAnyH_ready (rs := [17]) (by kernel_rfl) (by simp) ?_
          refine AllReadyH.cons rfl (fun K hK => ?_) ?_
          · go_simp
            refine hK.out _ _ (HKW.out.2 _) (fun hHeld => ?_)
            clear hK K
            refine wpAnyH_done (by kernel_rfl) ?_ _
            clear hHeld HOA HSX HAP HE3 HK0 f6 r6
            go_wp2
            go_ret
            rw [HXX.out]
            exact ⟨rfl, A1, c1, HI2.out.1, (HP.out.2.trans (hG.below lo)).trans HI2.out.2⟩
          exact AllReadyH.nil
        exact AllReadyH.nil
      exact AllReadyH.nil
    exact AllReadyH.nil
  refine AllReadyH.cons rfl (fun K hK => ?_) ?_
  · go_simp
    refine C1.out.mono ?_
    rintro e W3 ⟨rfl, hG⟩
    (try go_wp2_with fail)
    have hI3 := HP.out.1.next (hG.below _)
    have HE3 := Lib.hid (hI3.emitS (HBX.out.below (hG.below (w.heap.size + 1)) (by omega)) (by decide) (by kernel_rfl) han HXX.out)
    have HSX := Lib.hid (sees_new W3 #[.int .i64 x] 2)
    have HOA := Lib.hid (((Mods.refl No W3).alloc (.cells #[.int .i64 x] 2)).ownS hI3.v.trace fun _ _ h => h)
    have HAP := Lib.hid fun (W1 : World) (A1 : Option Addr) (c1 : Nat) hg ho ha => hI3.app x (.cells #[.int .i64 x] 2) (W := W1) (A1 := A1) (c1 := c1) hg ho ha
    obtain ⟨_, _, _, _, p4, _, p6, _⟩ := hI3.cells
    have hlo1 : lo ≤ (W3.alloc (.cells #[.int .i64 x] 2)).heap.size := by have := hI3.lt; have := hI3.row.lt; simp; omega
    have hq3 : q < W3.heap.size := hI3.row.lt
    clear hI3
    refine hK.out _ _ HE3.out.1 (fun hHeld => ?_)
    clear hK K
    refine take_at 10 15 (.pointer (some ⟨g, a, none⟩)) rfl rfl (by kernel_rfl) (by kernel_rfl) (by kernel_rfl) (fun _ _ _ h => h) (Or.inl ⟨by rfl, ?_⟩) hHeld ?_
    · intro w9 hSw
      (try dsimp only at hSw)
      go_simp
    (try simp only [Act.put, List.setIfInBounds_toArray, List.set_cons_zero, List.set_cons_succ])
    refine take_at 11 16 (.int .i64 x) rfl rfl (by kernel_rfl) (by kernel_rfl) (by kernel_rfl) (fun _ _ _ h => h) (Or.inl ⟨by rfl, ?_⟩) hHeld ?_
    · intro w9 hSw
      (try dsimp only at hSw)
      go_simp
    (try simp only [Act.put, List.setIfInBounds_toArray, List.set_cons_zero, List.set_cons_succ])
    refine wpAnyH_ready (rs := [5, 12]) (by kernel_rfl) (by simp) ?_
    refine AllReadyH.cons rfl (fun K hK => ?_) ?_
    · go_simp
      refine hK.out _ _ HE3.out.1 (fun hHeld => ?_)
      clear hK K
      refine wpAnyH_ready (rs := [12]) (by kernel_rfl) (by simp) ?_
      refine AllReadyH.cons rfl (fun K hK => ?_) ?_
      · go_simp
        refine hK.out _ _ HE3.out.2.1 (fun hHeld => ?_)
        clear hK K
        refine wpAnyH_ready (rs := [13]) (by kernel_rfl) (by simp) ?_
        refine AllReadyH.cons rfl (fun K hK => ?_) ?_
        · refine step_append_any _ rfl (.tmp 10) (.tmp 17) 25 rfl lo 2 i0 _ 1 8 Try.underlying25 hi hz0 hz1 hz2 rfl (by decide) (.slice TA r.trace.length tc) r.trace.length (ints r.trace) rfl HOA.out (W3.heap.size + 1) (some ⟨W3.heap.size, 0, none⟩) 1 1 (ints [x]) rfl HSX.out rfl (ints_one _) (by unfold maxLen; omega) (by omega) hlo1 ?_
          intro v1 W1 ho1 hg1 ha1
          obtain ⟨A1, c1, rfl, _, _⟩ := ownS_slice ho1
          have hgg : World.grownBy (W3.alloc (.cells #[.int .i64 x] 2)) W1 (Value.slice TA r.trace.length tc).ownBlock := ⟨hg1.os, hg1.tape, hg1.output, hg1.size, hg1.block⟩
          obtain ⟨hrow, hI2, hbl2⟩ := HAP.out W1 A1 c1 hgg (by rw [ints_append]; exact ho1) ha1
          have f6 : W1.cell? ⟨q, 6, none⟩ = some (.slice TA r.trace.length tc) := by rw [hrow.cell]; rfl
          have r6 := hrow.frozen 6
          have HI2 := Lib.hid (And.intro hI2 hbl2)
          have HKW := Lib.hid (HE3.out.2.2 W1 hgg)
          clear ho1 hg1 ha1 hgg hrow hI2 hbl2
          refine hK.out _ _ HKW.out.1 (fun hHeld => ?_)
          clear hK K
          refine take_at 14 19 (.pointer (some ⟨q, 0, none⟩)) rfl rfl (by kernel_rfl) (by kernel_rfl) (by kernel_rfl) (fun _ _ _ h => h) (Or.inl ⟨by rfl, ?_⟩) hHeld ?_
          · intro w9 hSw
            (try dsimp only at hSw)
            go_simp
          (try simp only [Act.put, List.setIfInBounds_toArray, List.set_cons_zero, List.set_cons_succ])
          refine take_at 15 20 (.pointer (some ⟨q, 0, none⟩)) rfl rfl (by kernel_rfl) (by kernel_rfl) (by kernel_rfl) (fun _ _ _ h => h) (Or.inl ⟨by rfl, ?_⟩) hHeld ?_
          · intro w9 hSw
            (try dsimp only at hSw)
            go_simp
          (try simp only [Act.put, List.setIfInBounds_toArray, List.set_cons_zero, List.set_cons_succ])
          refine take_at 16 21 (.pointer (some ⟨q, 6, none⟩)) rfl rfl (by kernel_rfl) (by kernel_rfl) (by kernel_rfl) (fun _ _ _ h => h) (Or.inl ⟨by rfl, ?_⟩) hHeld ?_
          · intro w9 hSw
            (try dsimp only at hSw)
            go_simp
          (try simp only [Act.put, List.setIfInBounds_toArray, List.set_cons_zero, List.set_cons_succ])
          refine wpAnyH_ready (rs := [17]) (by kernel_rfl) (by simp) ?_
          refine AllReadyH.cons rfl (fun K hK => ?_) ?_
          · go_simp
            refine hK.out _ _ (HKW.out.2 _) (fun hHeld => ?_)
            clear hK K
            refine wpAnyH_done (by kernel_rfl) ?_ _
            clear hHeld HOA HSX HAP HE3 HK0 f6 r6
            go_wp2
            go_ret
            rw [HXX.out]
            exact ⟨rfl, A1, c1, HI2.out.1, (HP.out.2.trans (hG.below lo)).trans HI2.out.2⟩
          exact AllReadyH.nil
        exact AllReadyH.nil
      exact AllReadyH.nil
    refine AllReadyH.cons rfl (fun K hK => ?_) ?_
    · go_simp
      refine hK.out _ _ HE3.out.2.1 (fun hHeld => ?_)
      clear hK K
      refine wpAnyH_ready (rs := [5]) (by kernel_rfl) (by simp) ?_
      refine AllReadyH.cons rfl (fun K hK => ?_) ?_
      · go_simp
        refine hK.out _ _ HE3.out.2.1 (fun hHeld => ?_)
        clear hK K
        refine wpAnyH_ready (rs := [13]) (by kernel_rfl) (by simp) ?_
        refine AllReadyH.cons rfl (fun K hK => ?_) ?_
        · refine step_append_any _ rfl (.tmp 10) (.tmp 17) 25 rfl lo 2 i0 _ 1 8 Try.underlying25 hi hz0 hz1 hz2 rfl (by decide) (.slice TA r.trace.length tc) r.trace.length (ints r.trace) rfl HOA.out (W3.heap.size + 1) (some ⟨W3.heap.size, 0, none⟩) 1 1 (ints [x]) rfl HSX.out rfl (ints_one _) (by unfold maxLen; omega) (by omega) hlo1 ?_
          intro v1 W1 ho1 hg1 ha1
          obtain ⟨A1, c1, rfl, _, _⟩ := ownS_slice ho1
          have hgg : World.grownBy (W3.alloc (.cells #[.int .i64 x] 2)) W1 (Value.slice TA r.trace.length tc).ownBlock := ⟨hg1.os, hg1.tape, hg1.output, hg1.size, hg1.block⟩
          obtain ⟨hrow, hI2, hbl2⟩ := HAP.out W1 A1 c1 hgg (by rw [ints_append]; exact ho1) ha1
          have f6 : W1.cell? ⟨q, 6, none⟩ = some (.slice TA r.trace.length tc) := by rw [hrow.cell]; rfl
          have r6 := hrow.frozen 6
          have HI2 := Lib.hid (And.intro hI2 hbl2)
          have HKW := Lib.hid (HE3.out.2.2 W1 hgg)
          clear ho1 hg1 ha1 hgg hrow hI2 hbl2
          refine hK.out _ _ HKW.out.1 (fun hHeld => ?_)
          clear hK K
          refine take_at 14 19 (.pointer (some ⟨q, 0, none⟩)) rfl rfl (by kernel_rfl) (by kernel_rfl) (by kernel_rfl) (fun _ _ _ h => h) (Or.inl ⟨by rfl, ?_⟩) hHeld ?_
          · intro w9 hSw
            (try dsimp only at hSw)
            go_simp
          (try simp only [Act.put, List.setIfInBounds_toArray, List.set_cons_zero, List.set_cons_succ])
          refine take_at 15 20 (.pointer (some ⟨q, 0, none⟩)) rfl rfl (by kernel_rfl) (by kernel_rfl) (by kernel_rfl) (fun _ _ _ h => h) (Or.inl ⟨by rfl, ?_⟩) hHeld ?_
          · intro w9 hSw
            (try dsimp only at hSw)
            go_simp
          (try simp only [Act.put, List.setIfInBounds_toArray, List.set_cons_zero, List.set_cons_succ])
          refine take_at 16 21 (.pointer (some ⟨q, 6, none⟩)) rfl rfl (by kernel_rfl) (by kernel_rfl) (by kernel_rfl) (fun _ _ _ h => h) (Or.inl ⟨by rfl, ?_⟩) hHeld ?_
          · intro w9 hSw
            (try dsimp only at hSw)
            go_simp
          (try simp only [Act.put, List.setIfInBounds_toArray, List.set_cons_zero, List.set_cons_succ])
          refine wpAnyH_ready (rs := [17]) (by kernel_rfl) (by simp) ?_
          refine AllReadyH.cons rfl (fun K hK => ?_) ?_
          · go_simp
            refine hK.out _ _ (HKW.out.2 _) (fun hHeld => ?_)
            clear hK K
            refine wpAnyH_done (by kernel_rfl) ?_ _
            clear hHeld HOA HSX HAP HE3 HK0 f6 r6
            go_wp2
            go_ret
            rw [HXX.out]
            exact ⟨rfl, A1, c1, HI2.out.1, (HP.out.2.trans (hG.below lo)).trans HI2.out.2⟩
          exact AllReadyH.nil
        exact AllReadyH.nil
      exact AllReadyH.nil
    exact AllReadyH.nil
  exact AllReadyH.nil

end Go.Proofs.Ytcimjghejclknaa
