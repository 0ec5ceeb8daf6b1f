/-
  The reference's Copy.
-/
import Derived.Test.YtncigbpeempnfaaPk1
import Derived.LoopTactic
import Derived.Deep.RegionWith
import Derived.Deep.RegionHeld3
import Derived.Deep.RegionHeldLaw
import Derived.Deep.DeepMust
namespace Go.Proofs.Ytncigbpeempnfaa
open Go.RowKit
set_option linter.unusedVariables false
set_option linter.unusedSimpArgs false

theorem infoIn : (Try.prog.info? 56).map (fun i => (i.zero, i.size, i.bytes)) = some (some (.agg #[.int .i64 0, .int .i64 0, .int .i64 0, .int .i64 0, .int .i64 0]), 5, 40) := by kernel_rfl

theorem infoBlk : (Try.prog.info? 34).map (fun i => (i.zero, i.size, i.bytes)) = some (some (.agg #[.slice none 0 0, .int .i64 0, .int .i64 0, .int .i64 0, .int .i64 0]), 5, 56) := by kernel_rfl

/-- What Copy returns: the function, in memory of its own. -/
def CopyP (w : World) (args regs : Int) (bs : List Blk) (e : Ending) (w' : World) : Prop :=
  ∃ v vs, e = .returned (.agg #[.int .i64 args, .int .i64 regs, v]) ∧ NestV bshp w' w.heap.size v vs bs ∧ Below w.heap.size w w'

/-- What the loop carries: the boxes, and the blocks that are copied. -/
structure CopyS (w : World) (args regs : Int) (A : Option Addr) (bs : List Blk) (c k : Nat) (v : Value) (W : World) : Prop where
  below : Below w.heap.size w W
  box : Row W w.heap.size 24 #[.int .i64 args, .int .i64 regs, .slice A bs.length c]
  res : Row W (w.heap.size + 1) 24 #[.int .i64 0, .int .i64 0, .slice none 0 0]
  out : Row W (w.heap.size + 1 + 1) 24 #[.int .i64 args, .int .i64 regs, v]
  nest : ∃ vs, NestV bshp W (w.heap.size + 1 + 1 + 1) v vs (bs.take k)

theorem CopyS.start (w : World) (args regs : Int) (A : Option Addr) (bs : List Blk) (c : Nat) :
    CopyS w args regs A bs c 0 (.slice none 0 0) (((w.alloc (.cells #[.int .i64 args, .int .i64 regs, .slice A bs.length c] 24)).alloc (.cells #[.int .i64 0, .int .i64 0, .slice none 0 0] 24)).alloc (.cells #[.int .i64 args, .int .i64 regs, .slice none 0 0] 24)) where
  below := (((Below.refl w.heap.size w).alloc (Nat.le_refl _) _).alloc (by simp) _).alloc (by simp; omega) _
  box := ((Row.new w _ _).alloc _).alloc _
  res := (Row.new' (p := w.heap.size + 1) (by simp) _ _).alloc _
  out := Row.new' (p := w.heap.size + 1 + 1) (by simp) _ _
  nest := ⟨[], by rw [List.take_zero]; exact NestV.nil _ _⟩

theorem CopyS.step {w wr W : World} {args regs : Int} {A : Option Addr} {bs : List Blk} {c k : Nat} {v v' : Value} (h : CopyS w args regs A bs c k v wr) (hb : Below (w.heap.size + 1 + 1 + 1) wr W) (hn : ∃ vs, NestV bshp W (w.heap.size + 1 + 1 + 1) v' vs (bs.take (k + 1))) :
    CopyS w args regs A bs c (k + 1) v' (W.setCell ⟨w.heap.size + 1 + 1, 2, none⟩ v') where
  below := by
    refine (h.below.trans (hb.mono (by omega))).setCell ?_ _
    show w.heap.size ≤ w.heap.size + 1 + 1
    omega
  box := (h.box.below hb (by omega)).far (by show w.heap.size ≠ w.heap.size + 1 + 1; omega) _
  res := (h.res.below hb (by omega)).far (by show w.heap.size + 1 ≠ w.heap.size + 1 + 1; omega) _
  out := (h.out.below hb (by omega)).put 2 v'
  nest := by
    obtain ⟨vs, hn⟩ := hn
    exact ⟨vs, hn.mods ((Mods.refl (Is (w.heap.size + 1 + 1)) W).put 2 v') fun k h1 _ h2 => by
      unfold Is at h2
      omega⟩

theorem oc_one (y : Blk) (A : Option Addr) (n c : Nat) : ∀ u ∈ bshp.oc (.slice A n c) y, u.oneCell' = true := by
  intro u hu
  simp only [bshp, List.mem_cons, List.not_mem_nil, or_false] at hu
  rcases hu with rfl | rfl | rfl | rfl | rfl <;> rfl

/-- What a round reads stays as it is below the copy's blocks. -/
theorem copy_keep {w wr W : World} {b o n c k c1 m : Nat} {A1 : Option Addr} {t0 t1 t2 t3 : Int} (hbl : b < w.heap.size) (hb : Below (w.heap.size + 1) wr W)
    (h : wr.cell? ⟨w.heap.size, 2, none⟩ = some (.slice (some ⟨b, o, none⟩) n c) ∧ wr.cell? ⟨b, o + k * 5, none⟩ = some (.slice A1 m c1) ∧ wr.cell? ⟨b, o + k * 5 + 1, none⟩ = some (.int .i64 t0) ∧ wr.cell? ⟨b, o + k * 5 + 2, none⟩ = some (.int .i64 t1) ∧ wr.cell? ⟨b, o + k * 5 + 3, none⟩ = some (.int .i64 t2) ∧ wr.cell? ⟨b, o + k * 5 + 4, none⟩ = some (.int .i64 t3)) :
    W.cell? ⟨w.heap.size, 2, none⟩ = some (.slice (some ⟨b, o, none⟩) n c) ∧ W.cell? ⟨b, o + k * 5, none⟩ = some (.slice A1 m c1) ∧ W.cell? ⟨b, o + k * 5 + 1, none⟩ = some (.int .i64 t0) ∧ W.cell? ⟨b, o + k * 5 + 2, none⟩ = some (.int .i64 t1) ∧ W.cell? ⟨b, o + k * 5 + 3, none⟩ = some (.int .i64 t2) ∧ W.cell? ⟨b, o + k * 5 + 4, none⟩ = some (.int .i64 t3) := by
  obtain ⟨h1, h2, h3, h4, h5, h6⟩ := h
  have e := fun q (hq : q < w.heap.size + 1) i => hb.cell (p := ⟨q, i, none⟩) hq
  exact ⟨(e _ (by omega) _).trans h1, (e _ (by omega) _).trans h2, (e _ (by omega) _).trans h3, (e _ (by omega) _).trans h4, (e _ (by omega) _).trans h5, (e _ (by omega) _).trans h6⟩

set_option maxRecDepth 100000 in
set_option maxHeartbeats 4000000 in
theorem rcopy_any (B : Nat) (A : Option Addr) (bs : List Blk) (c : Nat) (args regs : Int) (w : World) (hs : BlksAt w B A bs) (hB : B ≤ w.heap.size) (hm : bs.length ≤ 1000) (hn : codeN bs ≤ 1000000) :
    Calls Try.prog 28 #[.agg #[.int .i64 args, .int .i64 regs, .slice A bs.length c]] w (CopyP w args regs bs) := by
  obtain ⟨i0, hi0, hz0, hz1, hz2⟩ := info_parts infoIn
  obtain ⟨i1, hi1, hy0, hy1, hy2⟩ := info_parts infoBlk
  go_enter Try.func28, Try.ntmps28
  go_wp2
  have HS0 := Lib.hid (CopyS.start w args regs A bs c)
  go_loopw [4] (fun i wr => ∃ (k : Nat) (v : Value), k ≤ bs.length ∧ i = .int .i64 k ∧ Hid (CopyS w args regs A bs c k v wr)) (fun i _ => bs.length - (intOf i).toNat)
  case atStart => exact ⟨0, _, Nat.zero_le _, rfl, HS0.out⟩
  case round =>
    obtain ⟨k, v, hk, rfl, HC⟩ := hrel
    clear HS0
    by_cases hlt : k < bs.length
    · obtain ⟨b, o, rfl, hb, hat⟩ := ((hs.more hB).below HC.out.below).at_ hlt
      obtain ⟨A1, c1, hc0, hl1, hl2, hin⟩ := hat.code
      have d2 := HC.out.box.cell 2; have f2 := HC.out.out.cell 2
      simp only [List.getElem?_toArray, List.getElem?_cons_zero, List.getElem?_cons_succ] at d2 f2
      have HX := Lib.hid (And.intro d2 (And.intro hc0 (And.intro hat.t0 (And.intro hat.t1 (And.intro hat.t2 hat.t3)))))
      have hbz : w.heap.size + 1 + 1 + 1 ≤ wr.heap.size := HC.out.out.lt
      obtain ⟨vs, hnest⟩ := HC.out.nest
      have HN := Lib.hid hnest
      have hvl : vs.length = k := by rw [hnest.len, List.length_take]; omega
      have HSE := Lib.hid (sees_insAt hin)
      have hyl : bs[k].code.length ≤ 1000000 := by have := codeN_mem bs k hlt; omega
      have HT := Lib.hid (show bs.take (k + 1) = bs.take k ++ [bs[k]] from List.take_succ_eq_append_getElem hlt)
      have kb := Below.refl wr.heap.size wr
      obtain ⟨Av, cv, rfl, _, _⟩ := ownS_slice hnest.outer
      rw [hvl] at f2 HN
      clear hat hin hnest hs hc0
      generalize bs[k] = y at *
      have HOut : Hid (wr.ownsRow (w.heap.size + 1 + 1 + 1) bshp.eo bshp.so (.slice Av k cv) k ((vs.zip (bs.take k)).flatMap fun p => bshp.oc p.1 p.2)) := by
        have := HN.out.outer
        rw [hvl] at this
        exact this
      have HE := Lib.hid (own_empty wr 56 5)
      have HSX := Lib.hid (HSE.out.below (((Below.refl w.heap.size wr).alloc (by omega) (.cells #[] 56))))
      have hw1 : w.heap.size + 1 ≤ (⟨w.heap.size + 1 + 1, 2, none⟩ : Addr).block := Nat.le_succ _
      have hw2 : w.heap.size + 1 ≤ w.heap.size + 1 + 1 + 1 := by omega
      have hw3 : w.heap.size + 1 ≤ wr.heap.size := by omega
      have hw4 : w.heap.size + 1 + 1 < wr.heap.size := by omega
      have hz9 : wr.heap.size ≤ (wr.alloc (.cells #[] 56)).heap.size := by simp
      have HK0 := Lib.hid (((Below.refl wr.heap.size wr).alloc (Nat.le_refl _) (.cells #[] 56)))
      go_wp2_with fail
      refine wp_region_held_drew (S := (fun w' => w'.cell? ⟨w.heap.size, 2, none⟩ = some (.slice (some ⟨b, o, none⟩) bs.length c) ∧ w'.cell? ⟨b, o + k * 5, none⟩ = some (.slice A1 y.code.length c1) ∧ w'.cell? ⟨b, o + k * 5 + 1, none⟩ = some (.int .i64 y.term.kind) ∧ w'.cell? ⟨b, o + k * 5 + 2, none⟩ = some (.int .i64 y.term.a) ∧ w'.cell? ⟨b, o + k * 5 + 3, none⟩ = some (.int .i64 y.term.to) ∧ w'.cell? ⟨b, o + k * 5 + 4, none⟩ = some (.int .i64 y.term.el))) (by kernel_rfl) (copy_keep hb (kb.drew.mono hw3) HX.out) (fun hHeld => ?_)
      refine take_at 0 17 (.pointer (some ⟨w.heap.size + 1 + 1, 2, none⟩)) rfl rfl (by kernel_rfl) (by kernel_rfl) (by kernel_rfl) (fun _ _ _ h => h) (Or.inl ⟨by rfl, ?_⟩) hHeld ?_
      · intro w9 hSw
        (try dsimp only at hSw)
        go_simp
      (try simp only [Act.put, List.setIfInBounds_toArray, List.set_cons_zero, List.set_cons_succ])
      refine take_at 3 20 (.pointer (some ⟨w.heap.size, 2, none⟩)) rfl rfl (by kernel_rfl) (by kernel_rfl) (by kernel_rfl) (fun _ _ _ h => h) (Or.inl ⟨by rfl, ?_⟩) hHeld ?_
      · intro w9 hSw
        (try dsimp only at hSw)
        go_simp
      (try simp only [Act.put, List.setIfInBounds_toArray, List.set_cons_zero, List.set_cons_succ])
      refine take_at 4 21 (.slice (some ⟨b, o, none⟩) bs.length c) rfl rfl (by kernel_rfl) (by kernel_rfl) (by kernel_rfl) (fun _ _ _ h => h) (Or.inl ⟨by rfl, ?_⟩) hHeld ?_
      · intro w9 hSw
        (try dsimp only at hSw)
        go_simp
      (try simp only [Act.put, List.setIfInBounds_toArray, List.set_cons_zero, List.set_cons_succ])
      refine take_at 5 22 (.int .i64 k) rfl rfl (by kernel_rfl) (by kernel_rfl) (by kernel_rfl) (fun _ _ _ h => h) (Or.inl ⟨by rfl, ?_⟩) hHeld ?_
      · intro w9 hSw
        (try dsimp only at hSw)
        go_simp
      (try simp only [Act.put, List.setIfInBounds_toArray, List.set_cons_zero, List.set_cons_succ])
      refine take_at 6 23 (.pointer (some ⟨b, o + k * 5, none⟩)) rfl rfl (by kernel_rfl) (by kernel_rfl) (by kernel_rfl) (fun _ _ _ h => h) (Or.inl ⟨by rfl, ?_⟩) hHeld ?_
      · intro w9 hSw
        (try dsimp only at hSw)
        go_simp
      (try simp only [Act.put, List.setIfInBounds_toArray, List.set_cons_zero, List.set_cons_succ])
      refine take_at 7 24 (.pointer (some ⟨b, o + k * 5, none⟩)) rfl rfl (by kernel_rfl) (by kernel_rfl) (by kernel_rfl) (fun _ _ _ h => h) (Or.inl ⟨by rfl, ?_⟩) hHeld ?_
      · intro w9 hSw
        (try dsimp only at hSw)
        go_simp
      (try simp only [Act.put, List.setIfInBounds_toArray, List.set_cons_zero, List.set_cons_succ])
      refine take_at 8 25 (.slice A1 y.code.length c1) rfl rfl (by kernel_rfl) (by kernel_rfl) (by kernel_rfl) (fun _ _ _ h => h) (Or.inl ⟨by rfl, ?_⟩) hHeld ?_
      · intro w9 hSw
        (try dsimp only at hSw)
        go_simp
      (try simp only [Act.put, List.setIfInBounds_toArray, List.set_cons_zero, List.set_cons_succ])
      refine take_at 10 27 (.pointer (some ⟨w.heap.size, 2, none⟩)) rfl rfl (by kernel_rfl) (by kernel_rfl) (by kernel_rfl) (fun _ _ _ h => h) (Or.inl ⟨by rfl, ?_⟩) hHeld ?_
      · intro w9 hSw
        (try dsimp only at hSw)
        go_simp
      (try simp only [Act.put, List.setIfInBounds_toArray, List.set_cons_zero, List.set_cons_succ])
      refine take_at 11 28 (.slice (some ⟨b, o, none⟩) bs.length c) rfl rfl (by kernel_rfl) (by kernel_rfl) (by kernel_rfl) (fun _ _ _ h => h) (Or.inl ⟨by rfl, ?_⟩) hHeld ?_
      · intro w9 hSw
        (try dsimp only at hSw)
        go_simp
      (try simp only [Act.put, List.setIfInBounds_toArray, List.set_cons_zero, List.set_cons_succ])
      refine take_at 12 29 (.int .i64 k) rfl rfl (by kernel_rfl) (by kernel_rfl) (by kernel_rfl) (fun _ _ _ h => h) (Or.inl ⟨by rfl, ?_⟩) hHeld ?_
      · intro w9 hSw
        (try dsimp only at hSw)
        go_simp
      (try simp only [Act.put, List.setIfInBounds_toArray, List.set_cons_zero, List.set_cons_succ])
      refine take_at 13 30 (.pointer (some ⟨b, o + k * 5, none⟩)) rfl rfl (by kernel_rfl) (by kernel_rfl) (by kernel_rfl) (fun _ _ _ h => h) (Or.inl ⟨by rfl, ?_⟩) hHeld ?_
      · intro w9 hSw
        (try dsimp only at hSw)
        go_simp
      (try simp only [Act.put, List.setIfInBounds_toArray, List.set_cons_zero, List.set_cons_succ])
      refine take_at 14 31 (.pointer (some ⟨b, o + k * 5 + 1, none⟩)) rfl rfl (by kernel_rfl) (by kernel_rfl) (by kernel_rfl) (fun _ _ _ h => h) (Or.inl ⟨by rfl, ?_⟩) hHeld ?_
      · intro w9 hSw
        (try dsimp only at hSw)
        go_simp
      (try simp only [Act.put, List.setIfInBounds_toArray, List.set_cons_zero, List.set_cons_succ])
      refine take_at 15 32 (.agg #[.int .i64 y.term.kind, .int .i64 y.term.a, .int .i64 y.term.to, .int .i64 y.term.el]) rfl rfl (by kernel_rfl) (by kernel_rfl) (by kernel_rfl) (fun _ _ _ h => h) (Or.inl ⟨by rfl, ?_⟩) hHeld ?_
      · intro w9 hSw
        (try dsimp only at hSw)
        go_simp
      (try simp only [Act.put, List.setIfInBounds_toArray, List.set_cons_zero, List.set_cons_succ])
      refine wpAnyH_ready (rs := [1, 2]) (by kernel_rfl) (by simp) ?_
      refine AllReadyH.cons rfl (fun K hK => ?_) ?_
      · go_simp
        refine hK.out _ _ (copy_keep hb (kb.drew.mono hw3) HX.out) (fun hHeld => ?_)
        clear hK K
        refine wpAnyH_ready (rs := [2]) (by kernel_rfl) (by simp) ?_
        refine AllReadyH.cons rfl (fun K hK => ?_) ?_
        · go_simp
          refine hK.out _ _ (copy_keep hb (HK0.out.drew.mono hw3) HX.out) (fun hHeld => ?_)
          clear hK K
          refine wpAnyH_ready (rs := [9]) (by kernel_rfl) (by simp) ?_
          refine AllReadyH.cons rfl (fun K hK => ?_) ?_
          · refine step_append_any _ rfl (.tmp 19) (.tmp 25) 30 rfl wr.heap.size 56 i0 _ 5 40 Try.underlying30 hi0 hz0 hz1 hz2 rfl (by decide) _ 0 [] rfl HE.out w.heap.size A1 _ c1 (y.code.flatMap In.cells) rfl HSX.out (ins_len _) (ins_one _) (by unfold maxLen; omega) (by omega) hz9 ?_
            intro v1 W1 ho1 hg1 ha1
            rw [Nat.zero_add, List.nil_append] at ho1
            obtain ⟨A2, c2, rfl, _, _⟩ := ownS_slice ho1
            have HO1 := Lib.hid ho1
            have kb1 := (HK0.out.grown (⟨hg1.os, hg1.tape, hg1.output, hg1.size, hg1.block⟩ : World.grownBy (wr.alloc (.cells #[] 56)) W1 (some wr.heap.size)) hz9 (fun k hk => (by injection hk with hk; omega)))
            have f3 := (kb1.cell (p := ⟨w.heap.size + 1 + 1, 2, none⟩) hw4).trans f2
            have hw5 := Nat.lt_of_lt_of_le hw4 kb1.size
            clear ho1 hg1 ha1
            refine hK.out _ _ (copy_keep hb (kb1.mono hw3) HX.out) (fun hHeld => ?_)
            clear hK K
            refine take_at 16 33 (.agg #[.slice A2 y.code.length c2, .int .i64 y.term.kind, .int .i64 y.term.a, .int .i64 y.term.to, .int .i64 y.term.el]) rfl rfl (by kernel_rfl) (by kernel_rfl) (by kernel_rfl) (fun _ _ _ h => h) (Or.inl ⟨by rfl, ?_⟩) hHeld ?_
            · intro w9 hSw
              (try dsimp only at hSw)
              go_simp
            (try simp only [Act.put, List.setIfInBounds_toArray, List.set_cons_zero, List.set_cons_succ])
            refine wpAnyH_ready (rs := [17]) (by kernel_rfl) (by simp) ?_
            refine AllReadyH.cons rfl (fun K hK => ?_) ?_
            · go_simp
              refine hK.out _ _ (copy_keep hb ((kb1.alloc kb1.size _).mono hw3) HX.out) (fun hHeld => ?_)
              clear hK K
              refine wpAnyH_ready (rs := [18]) (by kernel_rfl) (by simp) ?_
              refine AllReadyH.cons rfl (fun K hK => ?_) ?_
              · refine step_append_any _ rfl (.tmp 18) (.tmp 34) 22 rfl (w.heap.size + 1 + 1 + 1) 34 i1 _ 5 56 Try.underlying22 hi1 hy0 hy1 hy2 rfl (by decide) _ k _ rfl ((Mods.of_below (S := No) (kb1.alloc kb1.size (.cells #[.slice A2 y.code.length c2, .int .i64 y.term.kind, .int .i64 y.term.a, .int .i64 y.term.to, .int .i64 y.term.el] 34))).ownS HOut.out (fun _ _ h => h)) (W1.heap.size + 1) (some ⟨W1.heap.size, 0, none⟩) 1 1 (bshp.oc (.slice A2 y.code.length c2) y) rfl (sees_new' rfl #[.slice A2 y.code.length c2, .int .i64 y.term.kind, .int .i64 y.term.a, .int .i64 y.term.to, .int .i64 y.term.el] 34 rfl) rfl (oc_one y A2 _ c2) (by unfold maxLen; omega) (by omega) (Nat.le_trans hbz (kb1.alloc kb1.size (.cells #[.slice A2 y.code.length c2, .int .i64 y.term.kind, .int .i64 y.term.a, .int .i64 y.term.to, .int .i64 y.term.el] 34)).size) ?_
                intro v2 W2 ho2 hg2 ha2
                obtain ⟨A3, c3, rfl, _, _⟩ := ownS_slice ho2
                have hgg : World.grownBy (W1.alloc (.cells #[.slice A2 y.code.length c2, .int .i64 y.term.kind, .int .i64 y.term.a, .int .i64 y.term.to, .int .i64 y.term.el] 34)) W2 (Value.slice Av k cv).ownBlock := ⟨hg2.os, hg2.tape, hg2.output, hg2.size, hg2.block⟩
                have HG2 := Lib.hid hgg
                have HO2 := Lib.hid ho2
                have kc := (((kb1.mono hbz).alloc (Nat.le_trans hbz kb1.size) (.cells #[.slice A2 y.code.length c2, .int .i64 y.term.kind, .int .i64 y.term.a, .int .i64 y.term.to, .int .i64 y.term.el] 34)).grown hgg (Nat.le_trans hbz (kb1.alloc kb1.size _).size) (fun k hk => (ownS_lt HOut.out k hk).1))
                have hfr := (HC.out.out.below kc (by omega)).frozen 2
                have f4 := (kc.cell (p := ⟨w.heap.size + 1 + 1, 2, none⟩) (Nat.lt_succ_self _)).trans f2
                clear ho2 hg2 ha2 hgg
                refine hK.out _ _ (copy_keep hb (kc.mono hw2) HX.out) (fun hHeld => ?_)
                clear hK K
                refine take_at 19 36 (.pointer (some ⟨w.heap.size + 1 + 1, 2, none⟩)) rfl rfl (by kernel_rfl) (by kernel_rfl) (by kernel_rfl) (fun _ _ _ h => h) (Or.inl ⟨by rfl, ?_⟩) hHeld ?_
                · intro w9 hSw
                  (try dsimp only at hSw)
                  go_simp
                (try simp only [Act.put, List.setIfInBounds_toArray, List.set_cons_zero, List.set_cons_succ])
                refine wpAnyH_ready (rs := [20]) (by kernel_rfl) (by simp) ?_
                refine AllReadyH.cons rfl (fun K hK => ?_) ?_
                · go_simp
                  refine hK.out _ _ (copy_keep hb ((kc.mono hw2).setCell hw1 _) HX.out) (fun hHeld => ?_)
                  clear hK K
                  refine wpAnyH_done (by kernel_rfl) ?_ _
                  have hN2 : ∃ vs, NestV bshp W2 (w.heap.size + 1 + 1 + 1) (.slice A3 (k + 1) c3) vs (bs.take (k + 1)) := ⟨_, by rw [HT.out]; exact NestV.snoc (M := No) HN.out (Mods.of_below kb1) (fun _ h => h.elim) hbz HO1.out _ (by rw [hvl]; exact HO2.out) HG2.out⟩
                  have HS9 := Lib.hid (HC.out.step kc hN2)
                  clear hHeld hN2 f2 f3 f4 hfr d2
                  go_wp2
                  go_roundw
                  case rel => exact ⟨k + 1, _, by omega, by go_num, HS9.out⟩
                  case measure => simp [intOf]; omega
                exact AllReadyH.nil
              exact AllReadyH.nil
            exact AllReadyH.nil
          exact AllReadyH.nil
        exact AllReadyH.nil
      refine AllReadyH.cons rfl (fun K hK => ?_) ?_
      · go_simp
        refine hK.out _ _ (copy_keep hb (HK0.out.drew.mono hw3) HX.out) (fun hHeld => ?_)
        clear hK K
        refine wpAnyH_ready (rs := [1, 9]) (by kernel_rfl) (by simp) ?_
        refine AllReadyH.cons rfl (fun K hK => ?_) ?_
        · go_simp
          refine hK.out _ _ (copy_keep hb (HK0.out.drew.mono hw3) HX.out) (fun hHeld => ?_)
          clear hK K
          refine wpAnyH_ready (rs := [9]) (by kernel_rfl) (by simp) ?_
          refine AllReadyH.cons rfl (fun K hK => ?_) ?_
          · refine step_append_any _ rfl (.tmp 19) (.tmp 25) 30 rfl wr.heap.size 56 i0 _ 5 40 Try.underlying30 hi0 hz0 hz1 hz2 rfl (by decide) _ 0 [] rfl HE.out w.heap.size A1 _ c1 (y.code.flatMap In.cells) rfl HSX.out (ins_len _) (ins_one _) (by unfold maxLen; omega) (by omega) hz9 ?_
            intro v1 W1 ho1 hg1 ha1
            rw [Nat.zero_add, List.nil_append] at ho1
            obtain ⟨A2, c2, rfl, _, _⟩ := ownS_slice ho1
            have HO1 := Lib.hid ho1
            have kb1 := (HK0.out.grown (⟨hg1.os, hg1.tape, hg1.output, hg1.size, hg1.block⟩ : World.grownBy (wr.alloc (.cells #[] 56)) W1 (some wr.heap.size)) hz9 (fun k hk => (by injection hk with hk; omega)))
            have f3 := (kb1.cell (p := ⟨w.heap.size + 1 + 1, 2, none⟩) hw4).trans f2
            have hw5 := Nat.lt_of_lt_of_le hw4 kb1.size
            clear ho1 hg1 ha1
            refine hK.out _ _ (copy_keep hb (kb1.mono hw3) HX.out) (fun hHeld => ?_)
            clear hK K
            refine take_at 16 33 (.agg #[.slice A2 y.code.length c2, .int .i64 y.term.kind, .int .i64 y.term.a, .int .i64 y.term.to, .int .i64 y.term.el]) rfl rfl (by kernel_rfl) (by kernel_rfl) (by kernel_rfl) (fun _ _ _ h => h) (Or.inl ⟨by rfl, ?_⟩) hHeld ?_
            · intro w9 hSw
              (try dsimp only at hSw)
              go_simp
            (try simp only [Act.put, List.setIfInBounds_toArray, List.set_cons_zero, List.set_cons_succ])
            refine wpAnyH_ready (rs := [17]) (by kernel_rfl) (by simp) ?_
            refine AllReadyH.cons rfl (fun K hK => ?_) ?_
            · go_simp
              refine hK.out _ _ (copy_keep hb ((kb1.alloc kb1.size _).mono hw3) HX.out) (fun hHeld => ?_)
              clear hK K
              refine wpAnyH_ready (rs := [18]) (by kernel_rfl) (by simp) ?_
              refine AllReadyH.cons rfl (fun K hK => ?_) ?_
              · refine step_append_any _ rfl (.tmp 18) (.tmp 34) 22 rfl (w.heap.size + 1 + 1 + 1) 34 i1 _ 5 56 Try.underlying22 hi1 hy0 hy1 hy2 rfl (by decide) _ k _ rfl ((Mods.of_below (S := No) (kb1.alloc kb1.size (.cells #[.slice A2 y.code.length c2, .int .i64 y.term.kind, .int .i64 y.term.a, .int .i64 y.term.to, .int .i64 y.term.el] 34))).ownS HOut.out (fun _ _ h => h)) (W1.heap.size + 1) (some ⟨W1.heap.size, 0, none⟩) 1 1 (bshp.oc (.slice A2 y.code.length c2) y) rfl (sees_new' rfl #[.slice A2 y.code.length c2, .int .i64 y.term.kind, .int .i64 y.term.a, .int .i64 y.term.to, .int .i64 y.term.el] 34 rfl) rfl (oc_one y A2 _ c2) (by unfold maxLen; omega) (by omega) (Nat.le_trans hbz (kb1.alloc kb1.size (.cells #[.slice A2 y.code.length c2, .int .i64 y.term.kind, .int .i64 y.term.a, .int .i64 y.term.to, .int .i64 y.term.el] 34)).size) ?_
                intro v2 W2 ho2 hg2 ha2
                obtain ⟨A3, c3, rfl, _, _⟩ := ownS_slice ho2
                have hgg : World.grownBy (W1.alloc (.cells #[.slice A2 y.code.length c2, .int .i64 y.term.kind, .int .i64 y.term.a, .int .i64 y.term.to, .int .i64 y.term.el] 34)) W2 (Value.slice Av k cv).ownBlock := ⟨hg2.os, hg2.tape, hg2.output, hg2.size, hg2.block⟩
                have HG2 := Lib.hid hgg
                have HO2 := Lib.hid ho2
                have kc := (((kb1.mono hbz).alloc (Nat.le_trans hbz kb1.size) (.cells #[.slice A2 y.code.length c2, .int .i64 y.term.kind, .int .i64 y.term.a, .int .i64 y.term.to, .int .i64 y.term.el] 34)).grown hgg (Nat.le_trans hbz (kb1.alloc kb1.size _).size) (fun k hk => (ownS_lt HOut.out k hk).1))
                have hfr := (HC.out.out.below kc (by omega)).frozen 2
                have f4 := (kc.cell (p := ⟨w.heap.size + 1 + 1, 2, none⟩) (Nat.lt_succ_self _)).trans f2
                clear ho2 hg2 ha2 hgg
                refine hK.out _ _ (copy_keep hb (kc.mono hw2) HX.out) (fun hHeld => ?_)
                clear hK K
                refine take_at 19 36 (.pointer (some ⟨w.heap.size + 1 + 1, 2, none⟩)) rfl rfl (by kernel_rfl) (by kernel_rfl) (by kernel_rfl) (fun _ _ _ h => h) (Or.inl ⟨by rfl, ?_⟩) hHeld ?_
                · intro w9 hSw
                  (try dsimp only at hSw)
                  go_simp
                (try simp only [Act.put, List.setIfInBounds_toArray, List.set_cons_zero, List.set_cons_succ])
                refine wpAnyH_ready (rs := [20]) (by kernel_rfl) (by simp) ?_
                refine AllReadyH.cons rfl (fun K hK => ?_) ?_
                · go_simp
                  refine hK.out _ _ (copy_keep hb ((kc.mono hw2).setCell hw1 _) HX.out) (fun hHeld => ?_)
                  clear hK K
                  refine wpAnyH_done (by kernel_rfl) ?_ _
                  have hN2 : ∃ vs, NestV bshp W2 (w.heap.size + 1 + 1 + 1) (.slice A3 (k + 1) c3) vs (bs.take (k + 1)) := ⟨_, by rw [HT.out]; exact NestV.snoc (M := No) HN.out (Mods.of_below kb1) (fun _ h => h.elim) hbz HO1.out _ (by rw [hvl]; exact HO2.out) HG2.out⟩
                  have HS9 := Lib.hid (HC.out.step kc hN2)
                  clear hHeld hN2 f2 f3 f4 hfr d2
                  go_wp2
                  go_roundw
                  case rel => exact ⟨k + 1, _, by omega, by go_num, HS9.out⟩
                  case measure => simp [intOf]; omega
                exact AllReadyH.nil
              exact AllReadyH.nil
            exact AllReadyH.nil
          exact AllReadyH.nil
        refine AllReadyH.cons rfl (fun K hK => ?_) ?_
        · refine step_append_any _ rfl (.tmp 19) (.tmp 25) 30 rfl wr.heap.size 56 i0 _ 5 40 Try.underlying30 hi0 hz0 hz1 hz2 rfl (by decide) _ 0 [] rfl HE.out w.heap.size A1 _ c1 (y.code.flatMap In.cells) rfl HSX.out (ins_len _) (ins_one _) (by unfold maxLen; omega) (by omega) hz9 ?_
          intro v1 W1 ho1 hg1 ha1
          rw [Nat.zero_add, List.nil_append] at ho1
          obtain ⟨A2, c2, rfl, _, _⟩ := ownS_slice ho1
          have HO1 := Lib.hid ho1
          have kb1 := (HK0.out.grown (⟨hg1.os, hg1.tape, hg1.output, hg1.size, hg1.block⟩ : World.grownBy (wr.alloc (.cells #[] 56)) W1 (some wr.heap.size)) hz9 (fun k hk => (by injection hk with hk; omega)))
          have f3 := (kb1.cell (p := ⟨w.heap.size + 1 + 1, 2, none⟩) hw4).trans f2
          have hw5 := Nat.lt_of_lt_of_le hw4 kb1.size
          clear ho1 hg1 ha1
          refine hK.out _ _ (copy_keep hb (kb1.mono hw3) HX.out) (fun hHeld => ?_)
          clear hK K
          refine take_at 16 33 (.agg #[.slice A2 y.code.length c2, .int .i64 y.term.kind, .int .i64 y.term.a, .int .i64 y.term.to, .int .i64 y.term.el]) rfl rfl (by kernel_rfl) (by kernel_rfl) (by kernel_rfl) (fun _ _ _ h => h) (Or.inl ⟨by rfl, ?_⟩) hHeld ?_
          · intro w9 hSw
            (try dsimp only at hSw)
            go_simp
          (try simp only [Act.put, List.setIfInBounds_toArray, List.set_cons_zero, List.set_cons_succ])
          refine wpAnyH_ready (rs := [1, 17]) (by kernel_rfl) (by simp) ?_
          refine AllReadyH.cons rfl (fun K hK => ?_) ?_
          · go_simp
            refine hK.out _ _ (copy_keep hb (kb1.mono hw3) HX.out) (fun hHeld => ?_)
            clear hK K
            refine wpAnyH_ready (rs := [17]) (by kernel_rfl) (by simp) ?_
            refine AllReadyH.cons rfl (fun K hK => ?_) ?_
            · go_simp
              refine hK.out _ _ (copy_keep hb ((kb1.alloc kb1.size _).mono hw3) HX.out) (fun hHeld => ?_)
              clear hK K
              refine wpAnyH_ready (rs := [18]) (by kernel_rfl) (by simp) ?_
              refine AllReadyH.cons rfl (fun K hK => ?_) ?_
              · refine step_append_any _ rfl (.tmp 18) (.tmp 34) 22 rfl (w.heap.size + 1 + 1 + 1) 34 i1 _ 5 56 Try.underlying22 hi1 hy0 hy1 hy2 rfl (by decide) _ k _ rfl ((Mods.of_below (S := No) (kb1.alloc kb1.size (.cells #[.slice A2 y.code.length c2, .int .i64 y.term.kind, .int .i64 y.term.a, .int .i64 y.term.to, .int .i64 y.term.el] 34))).ownS HOut.out (fun _ _ h => h)) (W1.heap.size + 1) (some ⟨W1.heap.size, 0, none⟩) 1 1 (bshp.oc (.slice A2 y.code.length c2) y) rfl (sees_new' rfl #[.slice A2 y.code.length c2, .int .i64 y.term.kind, .int .i64 y.term.a, .int .i64 y.term.to, .int .i64 y.term.el] 34 rfl) rfl (oc_one y A2 _ c2) (by unfold maxLen; omega) (by omega) (Nat.le_trans hbz (kb1.alloc kb1.size (.cells #[.slice A2 y.code.length c2, .int .i64 y.term.kind, .int .i64 y.term.a, .int .i64 y.term.to, .int .i64 y.term.el] 34)).size) ?_
                intro v2 W2 ho2 hg2 ha2
                obtain ⟨A3, c3, rfl, _, _⟩ := ownS_slice ho2
                have hgg : World.grownBy (W1.alloc (.cells #[.slice A2 y.code.length c2, .int .i64 y.term.kind, .int .i64 y.term.a, .int .i64 y.term.to, .int .i64 y.term.el] 34)) W2 (Value.slice Av k cv).ownBlock := ⟨hg2.os, hg2.tape, hg2.output, hg2.size, hg2.block⟩
                have HG2 := Lib.hid hgg
                have HO2 := Lib.hid ho2
                have kc := (((kb1.mono hbz).alloc (Nat.le_trans hbz kb1.size) (.cells #[.slice A2 y.code.length c2, .int .i64 y.term.kind, .int .i64 y.term.a, .int .i64 y.term.to, .int .i64 y.term.el] 34)).grown hgg (Nat.le_trans hbz (kb1.alloc kb1.size _).size) (fun k hk => (ownS_lt HOut.out k hk).1))
                have hfr := (HC.out.out.below kc (by omega)).frozen 2
                have f4 := (kc.cell (p := ⟨w.heap.size + 1 + 1, 2, none⟩) (Nat.lt_succ_self _)).trans f2
                clear ho2 hg2 ha2 hgg
                refine hK.out _ _ (copy_keep hb (kc.mono hw2) HX.out) (fun hHeld => ?_)
                clear hK K
                refine take_at 19 36 (.pointer (some ⟨w.heap.size + 1 + 1, 2, none⟩)) rfl rfl (by kernel_rfl) (by kernel_rfl) (by kernel_rfl) (fun _ _ _ h => h) (Or.inl ⟨by rfl, ?_⟩) hHeld ?_
                · intro w9 hSw
                  (try dsimp only at hSw)
                  go_simp
                (try simp only [Act.put, List.setIfInBounds_toArray, List.set_cons_zero, List.set_cons_succ])
                refine wpAnyH_ready (rs := [20]) (by kernel_rfl) (by simp) ?_
                refine AllReadyH.cons rfl (fun K hK => ?_) ?_
                · go_simp
                  refine hK.out _ _ (copy_keep hb ((kc.mono hw2).setCell hw1 _) HX.out) (fun hHeld => ?_)
                  clear hK K
                  refine wpAnyH_done (by kernel_rfl) ?_ _
                  have hN2 : ∃ vs, NestV bshp W2 (w.heap.size + 1 + 1 + 1) (.slice A3 (k + 1) c3) vs (bs.take (k + 1)) := ⟨_, by rw [HT.out]; exact NestV.snoc (M := No) HN.out (Mods.of_below kb1) (fun _ h => h.elim) hbz HO1.out _ (by rw [hvl]; exact HO2.out) HG2.out⟩
                  have HS9 := Lib.hid (HC.out.step kc hN2)
                  clear hHeld hN2 f2 f3 f4 hfr d2
                  go_wp2
                  go_roundw
                  case rel => exact ⟨k + 1, _, by omega, by go_num, HS9.out⟩
                  case measure => simp [intOf]; omega
                exact AllReadyH.nil
              exact AllReadyH.nil
            exact AllReadyH.nil
          refine AllReadyH.cons rfl (fun K hK => ?_) ?_
          · go_simp
            refine hK.out _ _ (copy_keep hb ((kb1.alloc kb1.size _).mono hw3) HX.out) (fun hHeld => ?_)
            clear hK K
            refine wpAnyH_ready (rs := [1]) (by kernel_rfl) (by simp) ?_
            refine AllReadyH.cons rfl (fun K hK => ?_) ?_
            · go_simp
              refine hK.out _ _ (copy_keep hb ((kb1.alloc kb1.size _).mono hw3) HX.out) (fun hHeld => ?_)
              clear hK K
              refine wpAnyH_ready (rs := [18]) (by kernel_rfl) (by simp) ?_
              refine AllReadyH.cons rfl (fun K hK => ?_) ?_
              · refine step_append_any _ rfl (.tmp 18) (.tmp 34) 22 rfl (w.heap.size + 1 + 1 + 1) 34 i1 _ 5 56 Try.underlying22 hi1 hy0 hy1 hy2 rfl (by decide) _ k _ rfl ((Mods.of_below (S := No) (kb1.alloc kb1.size (.cells #[.slice A2 y.code.length c2, .int .i64 y.term.kind, .int .i64 y.term.a, .int .i64 y.term.to, .int .i64 y.term.el] 34))).ownS HOut.out (fun _ _ h => h)) (W1.heap.size + 1) (some ⟨W1.heap.size, 0, none⟩) 1 1 (bshp.oc (.slice A2 y.code.length c2) y) rfl (sees_new' rfl #[.slice A2 y.code.length c2, .int .i64 y.term.kind, .int .i64 y.term.a, .int .i64 y.term.to, .int .i64 y.term.el] 34 rfl) rfl (oc_one y A2 _ c2) (by unfold maxLen; omega) (by omega) (Nat.le_trans hbz (kb1.alloc kb1.size (.cells #[.slice A2 y.code.length c2, .int .i64 y.term.kind, .int .i64 y.term.a, .int .i64 y.term.to, .int .i64 y.term.el] 34)).size) ?_
                intro v2 W2 ho2 hg2 ha2
                obtain ⟨A3, c3, rfl, _, _⟩ := ownS_slice ho2
                have hgg : World.grownBy (W1.alloc (.cells #[.slice A2 y.code.length c2, .int .i64 y.term.kind, .int .i64 y.term.a, .int .i64 y.term.to, .int .i64 y.term.el] 34)) W2 (Value.slice Av k cv).ownBlock := ⟨hg2.os, hg2.tape, hg2.output, hg2.size, hg2.block⟩
                have HG2 := Lib.hid hgg
                have HO2 := Lib.hid ho2
                have kc := (((kb1.mono hbz).alloc (Nat.le_trans hbz kb1.size) (.cells #[.slice A2 y.code.length c2, .int .i64 y.term.kind, .int .i64 y.term.a, .int .i64 y.term.to, .int .i64 y.term.el] 34)).grown hgg (Nat.le_trans hbz (kb1.alloc kb1.size _).size) (fun k hk => (ownS_lt HOut.out k hk).1))
                have hfr := (HC.out.out.below kc (by omega)).frozen 2
                have f4 := (kc.cell (p := ⟨w.heap.size + 1 + 1, 2, none⟩) (Nat.lt_succ_self _)).trans f2
                clear ho2 hg2 ha2 hgg
                refine hK.out _ _ (copy_keep hb (kc.mono hw2) HX.out) (fun hHeld => ?_)
                clear hK K
                refine take_at 19 36 (.pointer (some ⟨w.heap.size + 1 + 1, 2, none⟩)) rfl rfl (by kernel_rfl) (by kernel_rfl) (by kernel_rfl) (fun _ _ _ h => h) (Or.inl ⟨by rfl, ?_⟩) hHeld ?_
                · intro w9 hSw
                  (try dsimp only at hSw)
                  go_simp
                (try simp only [Act.put, List.setIfInBounds_toArray, List.set_cons_zero, List.set_cons_succ])
                refine wpAnyH_ready (rs := [20]) (by kernel_rfl) (by simp) ?_
                refine AllReadyH.cons rfl (fun K hK => ?_) ?_
                · go_simp
                  refine hK.out _ _ (copy_keep hb ((kc.mono hw2).setCell hw1 _) HX.out) (fun hHeld => ?_)
                  clear hK K
                  refine wpAnyH_done (by kernel_rfl) ?_ _
                  have hN2 : ∃ vs, NestV bshp W2 (w.heap.size + 1 + 1 + 1) (.slice A3 (k + 1) c3) vs (bs.take (k + 1)) := ⟨_, by rw [HT.out]; exact NestV.snoc (M := No) HN.out (Mods.of_below kb1) (fun _ h => h.elim) hbz HO1.out _ (by rw [hvl]; exact HO2.out) HG2.out⟩
                  have HS9 := Lib.hid (HC.out.step kc hN2)
                  clear hHeld hN2 f2 f3 f4 hfr d2
                  go_wp2
                  go_roundw
                  case rel => exact ⟨k + 1, _, by omega, by go_num, HS9.out⟩
                  case measure => simp [intOf]; omega
                exact AllReadyH.nil
              exact AllReadyH.nil
            exact AllReadyH.nil
          exact AllReadyH.nil
        exact AllReadyH.nil
      exact AllReadyH.nil
    · obtain rfl : k = bs.length := by omega
      have d2 := HC.out.box.cell 2
      have f0 := HC.out.out.cell 0; have f1 := HC.out.out.cell 1; have f2 := HC.out.out.cell 2
      have g0 := HC.out.res.cell 0; have g1 := HC.out.res.cell 1; have g2 := HC.out.res.cell 2
      have r0 := HC.out.res.frozen 0; have r1 := HC.out.res.frozen 1; have r2 := HC.out.res.frozen 2
      obtain ⟨vs, hnest⟩ := HC.out.nest
      rw [List.take_length] at hnest
      obtain ⟨Av, cv, rfl, _, _⟩ := ownS_slice hnest.outer
      simp only [List.getElem?_toArray, List.getElem?_cons_zero, List.getElem?_cons_succ] at d2 f0 f1 f2 g0 g1 g2
      have HN := Lib.hid hnest
      clear hnest hs
      go_wp2
      (try simp only [Exit.inBlock, Exit.then])
      refine bodyPost_ret (v := .agg #[.int .i64 args, .int .i64 regs, .slice Av vs.length cv]) ?_ rfl ⟨_, vs, rfl, (HN.out.mods (M := Is (w.heap.size + 1)) ((((Mods.refl _ wr).put 0 _).put 1 _).put 2 _) (fun k h1 _ h2 => by unfold Is at h2; omega)).rebase (by omega), ((HC.out.below.setCell (Nat.le_succ _) _).setCell (Nat.le_succ _) _).setCell (Nat.le_succ _) _⟩
      exact results_cell_row rfl _ _ (w.heap.size + 1) 24 #[.int .i64 args, .int .i64 regs, .slice Av vs.length cv] (0, 0) _ rfl (((HC.out.res.put 0 (.int .i64 args)).put 1 (.int .i64 regs)).put 2 (.slice Av vs.length cv)) Try.underlying24 rfl (by kernel_rfl)

end Go.Proofs.Ytncigbpeempnfaa
