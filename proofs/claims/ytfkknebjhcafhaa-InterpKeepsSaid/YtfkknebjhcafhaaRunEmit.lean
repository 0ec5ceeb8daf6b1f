/-
  The program's perform at an emit (written by wip/lab/genperf.py).
-/
import Derived.Test.YtfkknebjhcafhaaRunIp
import Derived.Test.YtfkknebjhcafhaaSrcCopy
namespace Go.Proofs.Ytfkknebjhcafhaa
open Go.RowKit
set_option linter.unusedVariables false
set_option linter.unusedSimpArgs false

theorem keepS {W1 : World} {q g h a n rc : Nat} {x : Int} {u : Value} (h0 : W1.cell? ⟨q, 4, none⟩ = some (.slice (some ⟨g, 0, none⟩) n rc) ∧ W1.cell? ⟨h, 2, none⟩ = some (.int .i64 (a : Int)) ∧ W1.cell? ⟨g, a, none⟩ = some (.int .i64 x)) (hn : ¬ g = q ∧ ¬ h = q) :
    (W1.setCell ⟨q, 6, none⟩ u).cell? ⟨q, 4, none⟩ = some (.slice (some ⟨g, 0, none⟩) n rc) ∧ (W1.setCell ⟨q, 6, none⟩ u).cell? ⟨h, 2, none⟩ = some (.int .i64 (a : Int)) ∧ (W1.setCell ⟨q, 6, none⟩ u).cell? ⟨g, a, none⟩ = some (.int .i64 x) :=
  ⟨(World.cell?_setCell_other _ _ _ _ (by simp)).trans h0.1, (World.cell?_setCell_other _ _ _ _ (by simp [hn.2])).trans h0.2.1, (World.cell?_setCell_other _ _ _ _ (by simp [hn.1])).trans h0.2.2⟩

set_option maxRecDepth 100000 in
set_option maxHeartbeats 4000000 in
theorem emit_any (i : In) (r : Rn) (lo q : Nat) (RA SA TA BA : Option Addr) (rc sc tc bl bc : Nat) (w : World) (hI : Ip w lo q RA rc SA sc TA tc BA bl bc r) (h17 : i.op = 17) (ha0 : 0 ≤ i.a) (ha1 : i.a < r.regs.length) (hp : r.pos ≤ 1000000) (hst : r.steps ≤ 1000000) (htr : r.trace.length ≤ 1000000) (hrl : r.regs.length ≤ 1000000) :
    Calls Try.prog 29 #[.pointer (some ⟨q, 0, none⟩), .agg #[.int .i64 i.op, .int .i64 i.d, .int .i64 i.a, .int .i64 i.b, .int .i64 i.imm]] w fun e w' => e = .returned (.tuple #[]) ∧ IpP w lo q SA sc BA bl bc (perf i r) w' := by
  obtain ⟨i0, hi, hz0, hz1, hz2⟩ := info_parts infoI64
  have hI0 := hI.next ((Below.refl w.heap.size w).alloc (Nat.le_refl _) (.cells #[.int .i64 i.op, .int .i64 i.d, .int .i64 i.a, .int .i64 i.b, .int .i64 i.imm] 53))
  have hbx := Row.new w 53 #[.int .i64 i.op, .int .i64 i.d, .int .i64 i.a, .int .i64 i.b, .int .i64 i.imm]
  have hb0 := (Below.refl w.heap.size w).alloc (Nat.le_refl _) (.cells #[.int .i64 i.op, .int .i64 i.d, .int .i64 i.a, .int .i64 i.b, .int .i64 i.imm] 53)
  have hqw : q < w.heap.size := hI.row.lt
  have hlq := hI.lt
  obtain ⟨a, ha⟩ := Int.eq_ofNat_of_zero_le ha0
  obtain ⟨op, d, ia, b, imm⟩ := i
  obtain ⟨st, blk, pos, val, regs, tr, steps⟩ := r
  dsimp only at *
  subst h17
  subst ha
  have han : a < regs.length := by omega
  have hx : perf ⟨17, d, (a : Int), b, imm⟩ ⟨st, blk, pos, val, regs, tr, steps⟩ = ⟨st, blk, pos + 1, val, regs, tr ++ [(rg regs (a : Int))], steps + 1⟩ := by
    unfold perf
    rw [if_pos rfl]
  rw [hx]
  clear hx hI ha0 ha1
  go_enter Try.func29, Try.ntmps29
  go_upto_region 1 with fail
  generalize w.alloc (.cells #[.int .i64 17, .int .i64 d, .int .i64 (a : Int), .int .i64 b, .int .i64 imm] 53) = W0 at *
  obtain ⟨g, rfl, hgc⟩ := regs_at hI0.v.regs han
  have d0 := hbx.cell 0; have d2 := hbx.cell 2; have p4 := hI0.row.cell 4; have p6 := hI0.row.cell 6
  simp only [List.getElem?_toArray, List.getElem?_cons_zero, List.getElem?_cons_succ] at d0 d2 p4 p6
  have HK0 := Lib.hid (And.intro p4 (And.intro d2 hgc))
  have hgq : ¬ g = q := hI0.nr g rfl
  have hglt : g < W0.heap.size := (ownS_lt hI0.v.regs g rfl).2
  have hhq : ¬ w.heap.size = q := by omega
  have hq0 : q < W0.heap.size := hI0.row.lt
  have hh0 : w.heap.size < W0.heap.size := hbx.lt
  have hgh : ¬ g = w.heap.size := own_row_ne hI0.v.regs hbx (by decide) g rfl
  have hlo1 : lo ≤ (W0.alloc (.cells #[.int .i64 (rg regs (a : Int))] 2)).heap.size := by simp; omega
  have hml : tr.length ≤ 1000000 := htr
  have HSX := Lib.hid (sees_new W0 #[.int .i64 (rg regs (a : Int))] 2)
  have HOA := Lib.hid (((Mods.refl No W0).alloc (.cells #[.int .i64 (rg regs (a : Int))] 2)).ownS hI0.v.trace fun _ _ h => h)
  have hKg : ∀ W1, (W0.alloc (.cells #[.int .i64 (rg regs (a : Int))] 2)).grownBy W1 (Value.slice TA tr.length tc).ownBlock → ∀ p : Addr, p.block < W0.heap.size → (∀ k, (Value.slice TA tr.length tc).ownBlock = some k → ¬ p.block = k) → W1.heap[p.block]? = W0.heap[p.block]? := fun W1 hg p hp hn =>
    (hg.block p.block (by simp; omega) fun e => hn _ e.symm rfl).trans (Below.heap_alloc W0 _ p.block hp)
  have HKg : Hid (∀ W1, (W0.alloc (.cells #[.int .i64 (rg regs (a : Int))] 2)).grownBy W1 (Value.slice TA tr.length tc).ownBlock → W1.cell? ⟨q, 4, none⟩ = some (.slice (some ⟨g, 0, none⟩) regs.length rc) ∧ W1.cell? ⟨w.heap.size, 2, none⟩ = some (.int .i64 (a : Int)) ∧ W1.cell? ⟨g, a, none⟩ = some (.int .i64 (rg regs (a : Int)))) := fun W1 hg =>
    ⟨(World.cell?_of_block (hKg W1 hg ⟨q, 4, none⟩ hq0 fun k hk e => hI0.nt k hk e.symm)).trans p4, (World.cell?_of_block (hKg W1 hg ⟨w.heap.size, 2, none⟩ hh0 fun k hk e => own_row_ne hI0.v.trace hbx (by decide) k hk e.symm)).trans d2, (World.cell?_of_block (hKg W1 hg ⟨g, a, none⟩ hglt fun k hk e => hI0.v.ne g rfl (by rw [hk]; exact congrArg some e.symm))).trans hgc⟩
  have HAP0 := fun (W1 : World) (A1 : Option Addr) (c1 : Nat) hg ho ha => hI0.app (rg regs (a : Int)) (.cells #[.int .i64 (rg regs (a : Int))] 2) (W := W1) (A1 := A1) (c1 := c1) hg ho ha
  dsimp only at HAP0
  have HAP := Lib.hid HAP0
  clear HAP0
  have HK1 : Hid ((W0.alloc (.cells #[.int .i64 (rg regs (a : Int))] 2)).cell? ⟨q, 4, none⟩ = some (.slice (some ⟨g, 0, none⟩) regs.length rc) ∧ (W0.alloc (.cells #[.int .i64 (rg regs (a : Int))] 2)).cell? ⟨w.heap.size, 2, none⟩ = some (.int .i64 (a : Int)) ∧ (W0.alloc (.cells #[.int .i64 (rg regs (a : Int))] 2)).cell? ⟨g, a, none⟩ = some (.int .i64 (rg regs (a : Int)))) :=
    ⟨(World.cell?_alloc_lt W0 _ ⟨q, 4, none⟩ hq0).trans p4, (World.cell?_alloc_lt W0 _ ⟨w.heap.size, 2, none⟩ hh0).trans d2, (World.cell?_alloc_lt W0 _ ⟨g, a, none⟩ hglt).trans hgc⟩
  have HI := Lib.hid hI0
  have HB := Lib.hid hb0
  have HKb := Lib.hid hKg
  clear hKg hI0 hb0 hbx
  generalize hX : (rg regs (a : Int)) = x at *
  have HXX := Lib.hid hX
  clear hX
  generalize hN : regs.length = n at *
  generalize hM : tr.length = m at *
  have HN := Lib.hid hN
  have HM := Lib.hid hM
  clear hN hM
  go_upto_region 2 with fail
  refine wp_region_held_drew (S := (fun w' => w'.cell? ⟨q, 4, none⟩ = some (.slice (some ⟨g, 0, none⟩) n rc) ∧ w'.cell? ⟨w.heap.size, 2, none⟩ = some (.int .i64 a) ∧ w'.cell? ⟨g, a, none⟩ = some (.int .i64 x))) (by kernel_rfl) HK0.out (fun hHeld => ?_)
  refine take_at 0 9 (.pointer (some ⟨q, 0, none⟩)) rfl rfl (by kernel_rfl) (by kernel_rfl) (by kernel_rfl) (fun _ _ _ h => h) (Or.inl ⟨by rfl, ?_⟩) hHeld ?_
  · intro w9 hSw
    (try dsimp only at hSw)
    go_simp
  (try simp only [Act.put, List.setIfInBounds_toArray, List.set_cons_zero, List.set_cons_succ])
  refine take_at 1 10 (.pointer (some ⟨q, 0, none⟩)) rfl rfl (by kernel_rfl) (by kernel_rfl) (by kernel_rfl) (fun _ _ _ h => h) (Or.inl ⟨by rfl, ?_⟩) hHeld ?_
  · intro w9 hSw
    (try dsimp only at hSw)
    go_simp
  (try simp only [Act.put, List.setIfInBounds_toArray, List.set_cons_zero, List.set_cons_succ])
  refine take_at 2 11 (.pointer (some ⟨q, 0, none⟩)) rfl rfl (by kernel_rfl) (by kernel_rfl) (by kernel_rfl) (fun _ _ _ h => h) (Or.inl ⟨by rfl, ?_⟩) hHeld ?_
  · intro w9 hSw
    (try dsimp only at hSw)
    go_simp
  (try simp only [Act.put, List.setIfInBounds_toArray, List.set_cons_zero, List.set_cons_succ])
  refine take_at 3 12 (.pointer (some ⟨q, 0, none⟩)) rfl rfl (by kernel_rfl) (by kernel_rfl) (by kernel_rfl) (fun _ _ _ h => h) (Or.inl ⟨by rfl, ?_⟩) hHeld ?_
  · intro w9 hSw
    (try dsimp only at hSw)
    go_simp
  (try simp only [Act.put, List.setIfInBounds_toArray, List.set_cons_zero, List.set_cons_succ])
  refine take_at 4 13 (.pointer (some ⟨q, 6, none⟩)) rfl rfl (by kernel_rfl) (by kernel_rfl) (by kernel_rfl) (fun _ _ _ h => h) (Or.inl ⟨by rfl, ?_⟩) hHeld ?_
  · intro w9 hSw
    (try dsimp only at hSw)
    go_simp
  (try simp only [Act.put, List.setIfInBounds_toArray, List.set_cons_zero, List.set_cons_succ])
  refine take_at 6 15 (.pointer (some ⟨q, 0, none⟩)) rfl rfl (by kernel_rfl) (by kernel_rfl) (by kernel_rfl) (fun _ _ _ h => h) (Or.inl ⟨by rfl, ?_⟩) hHeld ?_
  · intro w9 hSw
    (try dsimp only at hSw)
    go_simp
  (try simp only [Act.put, List.setIfInBounds_toArray, List.set_cons_zero, List.set_cons_succ])
  refine take_at 7 16 (.pointer (some ⟨q, 0, none⟩)) rfl rfl (by kernel_rfl) (by kernel_rfl) (by kernel_rfl) (fun _ _ _ h => h) (Or.inl ⟨by rfl, ?_⟩) hHeld ?_
  · intro w9 hSw
    (try dsimp only at hSw)
    go_simp
  (try simp only [Act.put, List.setIfInBounds_toArray, List.set_cons_zero, List.set_cons_succ])
  refine take_at 8 17 (.pointer (some ⟨q, 0, none⟩)) rfl rfl (by kernel_rfl) (by kernel_rfl) (by kernel_rfl) (fun _ _ _ h => h) (Or.inl ⟨by rfl, ?_⟩) hHeld ?_
  · intro w9 hSw
    (try dsimp only at hSw)
    go_simp
  (try simp only [Act.put, List.setIfInBounds_toArray, List.set_cons_zero, List.set_cons_succ])
  refine take_at 9 18 (.pointer (some ⟨q, 4, none⟩)) rfl rfl (by kernel_rfl) (by kernel_rfl) (by kernel_rfl) (fun _ _ _ h => h) (Or.inl ⟨by rfl, ?_⟩) hHeld ?_
  · intro w9 hSw
    (try dsimp only at hSw)
    go_simp
  (try simp only [Act.put, List.setIfInBounds_toArray, List.set_cons_zero, List.set_cons_succ])
  refine take_at 10 19 (.slice (some ⟨g, 0, none⟩) n rc) rfl rfl (by kernel_rfl) (by kernel_rfl) (by kernel_rfl) (fun _ _ _ h => h) (Or.inl ⟨by rfl, ?_⟩) hHeld ?_
  · intro w9 hSw
    (try dsimp only at hSw)
    go_simp
  (try simp only [Act.put, List.setIfInBounds_toArray, List.set_cons_zero, List.set_cons_succ])
  refine take_at 11 20 (.pointer (some ⟨w.heap.size, 2, none⟩)) rfl rfl (by kernel_rfl) (by kernel_rfl) (by kernel_rfl) (fun _ _ _ h => h) (Or.inl ⟨by rfl, ?_⟩) hHeld ?_
  · intro w9 hSw
    (try dsimp only at hSw)
    go_simp
  (try simp only [Act.put, List.setIfInBounds_toArray, List.set_cons_zero, List.set_cons_succ])
  refine take_at 12 21 (.int .i64 a) rfl rfl (by kernel_rfl) (by kernel_rfl) (by kernel_rfl) (fun _ _ _ h => h) (Or.inl ⟨by rfl, ?_⟩) hHeld ?_
  · intro w9 hSw
    (try dsimp only at hSw)
    go_simp
  (try simp only [Act.put, List.setIfInBounds_toArray, List.set_cons_zero, List.set_cons_succ])
  refine take_at 13 22 (.pointer (some ⟨g, a, none⟩)) rfl rfl (by kernel_rfl) (by kernel_rfl) (by kernel_rfl) (fun _ _ _ h => h) (Or.inl ⟨by rfl, ?_⟩) hHeld ?_
  · intro w9 hSw
    (try dsimp only at hSw)
    go_simp
  (try simp only [Act.put, List.setIfInBounds_toArray, List.set_cons_zero, List.set_cons_succ])
  refine take_at 14 23 (.int .i64 x) rfl rfl (by kernel_rfl) (by kernel_rfl) (by kernel_rfl) (fun _ _ _ h => h) (Or.inl ⟨by rfl, ?_⟩) hHeld ?_
  · intro w9 hSw
    (try dsimp only at hSw)
    go_simp
  (try simp only [Act.put, List.setIfInBounds_toArray, List.set_cons_zero, List.set_cons_succ])
  refine wpAnyH_ready (rs := [5, 15]) (by kernel_rfl) (by simp) ?_
  refine AllReadyH.cons rfl (fun K hK => ?_) ?_
  · go_simp
    refine hK.out _ _ (HK0.out) (fun hHeld => ?_)
    clear hK K
    refine wpAnyH_ready (rs := [15]) (by kernel_rfl) (by simp) ?_
    refine AllReadyH.cons rfl (fun K hK => ?_) ?_
    · go_simp
      refine hK.out _ _ (HK1.out) (fun hHeld => ?_)
      clear hK K
      refine wpAnyH_ready (rs := [16]) (by kernel_rfl) (by simp) ?_
      refine AllReadyH.cons rfl (fun K hK => ?_) ?_
      · refine step_append_any _ rfl (.tmp 14) (.tmp 24) 25 rfl lo 2 i0 _ 1 8 Try.underlying25 hi hz0 hz1 hz2 rfl (by decide) (.slice TA m tc) m (ints tr) rfl HOA.out (W0.heap.size + 1) (some ⟨W0.heap.size, 0, none⟩) 1 1 (ints [x]) rfl HSX.out rfl (ints_one _) (by unfold maxLen; omega) (by omega) hlo1 ?_
        intro v1 W1 ho1 hg1 ha1
        obtain ⟨A1, c1, rfl, _, _⟩ := ownS_slice ho1
        have hgg : World.grownBy (W0.alloc (.cells #[.int .i64 x] 2)) W1 (Value.slice TA m tc).ownBlock := ⟨hg1.os, hg1.tape, hg1.output, hg1.size, hg1.block⟩
        obtain ⟨hrow, hI2, hbl2⟩ := HAP.out W1 A1 c1 hgg (by rw [ints_append]; exact ho1) ha1
        have f6 := hrow.cell 6; have r6 := hrow.frozen 6
        simp only [List.getElem?_toArray, List.getElem?_cons_zero, List.getElem?_cons_succ] at f6
        have HI2 := Lib.hid (And.intro hI2 hbl2)
        have HKW := Lib.hid (HKg.out W1 hgg)
        clear ho1 hg1 ha1 hgg hrow hI2 hbl2
        refine hK.out _ _ (HKW.out) (fun hHeld => ?_)
        clear hK K
        refine take_at 17 26 (.pointer (some ⟨q, 0, none⟩)) rfl rfl (by kernel_rfl) (by kernel_rfl) (by kernel_rfl) (fun _ _ _ h => h) (Or.inl ⟨by rfl, ?_⟩) hHeld ?_
        · intro w9 hSw
          (try dsimp only at hSw)
          go_simp
        (try simp only [Act.put, List.setIfInBounds_toArray, List.set_cons_zero, List.set_cons_succ])
        refine take_at 18 27 (.pointer (some ⟨q, 0, none⟩)) rfl rfl (by kernel_rfl) (by kernel_rfl) (by kernel_rfl) (fun _ _ _ h => h) (Or.inl ⟨by rfl, ?_⟩) hHeld ?_
        · intro w9 hSw
          (try dsimp only at hSw)
          go_simp
        (try simp only [Act.put, List.setIfInBounds_toArray, List.set_cons_zero, List.set_cons_succ])
        refine take_at 19 28 (.pointer (some ⟨q, 6, none⟩)) rfl rfl (by kernel_rfl) (by kernel_rfl) (by kernel_rfl) (fun _ _ _ h => h) (Or.inl ⟨by rfl, ?_⟩) hHeld ?_
        · intro w9 hSw
          (try dsimp only at hSw)
          go_simp
        (try simp only [Act.put, List.setIfInBounds_toArray, List.set_cons_zero, List.set_cons_succ])
        refine wpAnyH_ready (rs := [20]) (by kernel_rfl) (by simp) ?_
        refine AllReadyH.cons rfl (fun K hK => ?_) ?_
        · go_simp
          refine hK.out _ _ (keepS HKW.out (by omega)) (fun hHeld => ?_)
          clear hK K
          refine wpAnyH_done (by kernel_rfl) ?_ _
          clear hHeld
          clear HKW HAP HKb HKg HK0 HK1 HOA HSX hgc p4 p6 d0 d2 f6 r6
          generalize W1.setCell ⟨q, 6, none⟩ (.slice A1 (m + 1) c1) = W2 at *
          have f2 := HI2.out.1.row.cell 2; have f7 := HI2.out.1.row.cell 7; have r2 := HI2.out.1.row.frozen 2; have r7 := HI2.out.1.row.frozen 7
          simp only [List.getElem?_toArray, List.getElem?_cons_zero, List.getElem?_cons_succ] at f2 f7
          go_wp2
          go_end0
          rw [HXX.out]
          exact ⟨rfl, _, _, _, _, HI2.out.1.tick, Below.put27 ((HB.out.mono (by omega)).trans HI2.out.2) (by omega) _ _⟩
        exact AllReadyH.nil
      exact AllReadyH.nil
    exact AllReadyH.nil
  refine AllReadyH.cons rfl (fun K hK => ?_) ?_
  · go_simp
    refine hK.out _ _ (HK1.out) (fun hHeld => ?_)
    clear hK K
    refine wpAnyH_ready (rs := [5]) (by kernel_rfl) (by simp) ?_
    refine AllReadyH.cons rfl (fun K hK => ?_) ?_
    · go_simp
      refine hK.out _ _ (HK1.out) (fun hHeld => ?_)
      clear hK K
      refine wpAnyH_ready (rs := [16]) (by kernel_rfl) (by simp) ?_
      refine AllReadyH.cons rfl (fun K hK => ?_) ?_
      · refine step_append_any _ rfl (.tmp 14) (.tmp 24) 25 rfl lo 2 i0 _ 1 8 Try.underlying25 hi hz0 hz1 hz2 rfl (by decide) (.slice TA m tc) m (ints tr) rfl HOA.out (W0.heap.size + 1) (some ⟨W0.heap.size, 0, none⟩) 1 1 (ints [x]) rfl HSX.out rfl (ints_one _) (by unfold maxLen; omega) (by omega) hlo1 ?_
        intro v1 W1 ho1 hg1 ha1
        obtain ⟨A1, c1, rfl, _, _⟩ := ownS_slice ho1
        have hgg : World.grownBy (W0.alloc (.cells #[.int .i64 x] 2)) W1 (Value.slice TA m tc).ownBlock := ⟨hg1.os, hg1.tape, hg1.output, hg1.size, hg1.block⟩
        obtain ⟨hrow, hI2, hbl2⟩ := HAP.out W1 A1 c1 hgg (by rw [ints_append]; exact ho1) ha1
        have f6 := hrow.cell 6; have r6 := hrow.frozen 6
        simp only [List.getElem?_toArray, List.getElem?_cons_zero, List.getElem?_cons_succ] at f6
        have HI2 := Lib.hid (And.intro hI2 hbl2)
        have HKW := Lib.hid (HKg.out W1 hgg)
        clear ho1 hg1 ha1 hgg hrow hI2 hbl2
        refine hK.out _ _ (HKW.out) (fun hHeld => ?_)
        clear hK K
        refine take_at 17 26 (.pointer (some ⟨q, 0, none⟩)) rfl rfl (by kernel_rfl) (by kernel_rfl) (by kernel_rfl) (fun _ _ _ h => h) (Or.inl ⟨by rfl, ?_⟩) hHeld ?_
        · intro w9 hSw
          (try dsimp only at hSw)
          go_simp
        (try simp only [Act.put, List.setIfInBounds_toArray, List.set_cons_zero, List.set_cons_succ])
        refine take_at 18 27 (.pointer (some ⟨q, 0, none⟩)) rfl rfl (by kernel_rfl) (by kernel_rfl) (by kernel_rfl) (fun _ _ _ h => h) (Or.inl ⟨by rfl, ?_⟩) hHeld ?_
        · intro w9 hSw
          (try dsimp only at hSw)
          go_simp
        (try simp only [Act.put, List.setIfInBounds_toArray, List.set_cons_zero, List.set_cons_succ])
        refine take_at 19 28 (.pointer (some ⟨q, 6, none⟩)) rfl rfl (by kernel_rfl) (by kernel_rfl) (by kernel_rfl) (fun _ _ _ h => h) (Or.inl ⟨by rfl, ?_⟩) hHeld ?_
        · intro w9 hSw
          (try dsimp only at hSw)
          go_simp
        (try simp only [Act.put, List.setIfInBounds_toArray, List.set_cons_zero, List.set_cons_succ])
        refine wpAnyH_ready (rs := [20]) (by kernel_rfl) (by simp) ?_
        refine AllReadyH.cons rfl (fun K hK => ?_) ?_
        · go_simp
          refine hK.out _ _ (keepS HKW.out (by omega)) (fun hHeld => ?_)
          clear hK K
          refine wpAnyH_done (by kernel_rfl) ?_ _
          clear hHeld
          clear HKW HAP HKb HKg HK0 HK1 HOA HSX hgc p4 p6 d0 d2 f6 r6
          generalize W1.setCell ⟨q, 6, none⟩ (.slice A1 (m + 1) c1) = W2 at *
          have f2 := HI2.out.1.row.cell 2; have f7 := HI2.out.1.row.cell 7; have r2 := HI2.out.1.row.frozen 2; have r7 := HI2.out.1.row.frozen 7
          simp only [List.getElem?_toArray, List.getElem?_cons_zero, List.getElem?_cons_succ] at f2 f7
          go_wp2
          go_end0
          rw [HXX.out]
          exact ⟨rfl, _, _, _, _, HI2.out.1.tick, Below.put27 ((HB.out.mono (by omega)).trans HI2.out.2) (by omega) _ _⟩
        exact AllReadyH.nil
      exact AllReadyH.nil
    exact AllReadyH.nil
  exact AllReadyH.nil

end Go.Proofs.Ytfkknebjhcafhaa
