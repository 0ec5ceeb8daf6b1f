/-
  The reference's Start of layer 10 (its region is written by wip/lab/genxrst.py).
-/
import Derived.Test.YtcimjghejclknaaExStart
import Derived.Test.YtcimjghejclknaaPk1
import Derived.Deep.LoopGhost
import Derived.LoopTactic
import Derived.Deep.Cut
import Derived.Deep.CutRange
namespace Go.Proofs.Ytcimjghejclknaa
open Go.RowKit
set_option linter.unusedVariables false
set_option linter.unusedSimpArgs false

/-- What the loop carries: the boxes, the run with the slots l so far. -/
structure RxS (w : World) (args regs slots : Int) (FA : Option Addr) (bl bc : Nat) (p n : Nat) (GA : Option Addr) (gc : Nat) (l : List Int) (v : Value) (W : World) : Prop where
  below : Below w.heap.size w W
  lt : w.heap.size + 1 < p
  box : Row W w.heap.size 24 #[.int .i64 args, .int .i64 regs, .int .i64 slots, .slice FA bl bc]
  res : Row W (w.heap.size + 1) 29 #[.int .i64 0, .int .i64 0, .int .i64 0, .int .i64 0, .slice none 0 0, .slice none 0 0, .slice none 0 0, .int .i64 0]
  out : Row W p 29 #[.int .i64 0, .int .i64 0, .int .i64 0, .int .i64 0, .slice GA n gc, v, .slice none 0 0, .int .i64 0]
  own : W.ownsRow (w.heap.size + 1 + 1) 2 1 v l.length (ints l)
  ownR : W.ownsRow (w.heap.size + 1 + 1) 2 1 (.slice GA n gc) n (ints (List.replicate n 0))
  ne : ∀ k, (Value.slice GA n gc).ownBlock = some k → v.ownBlock = some k → False
/-- What the region carries: the boxes and the arguments. -/
structure RB (w : World) (args regs slots : Int) (FA : Option Addr) (bl bc : Nat) (AA : Option Addr) (l : List Int) (V : World) : Prop where
  below : Below w.heap.size w V
  box : Row V w.heap.size 24 #[.int .i64 args, .int .i64 regs, .int .i64 slots, .slice FA bl bc]
  res : Row V (w.heap.size + 1) 29 #[.int .i64 0, .int .i64 0, .int .i64 0, .int .i64 0, .slice none 0 0, .slice none 0 0, .slice none 0 0, .int .i64 0]
  sees : Sees V (w.heap.size + 1 + 1) AA (ints l)
  lt : w.heap.size + 1 + 1 ≤ V.heap.size
theorem RB.next {w V V' : World} {args regs slots : Int} {FA : Option Addr} {bl bc : Nat} {AA : Option Addr} {l : List Int} (h : RB w args regs slots FA bl bc AA l V) (hb : Below (w.heap.size + 1 + 1) V V') : RB w args regs slots FA bl bc AA l V' :=
  ⟨h.below.trans (hb.mono (by omega)), h.box.below hb (by omega), h.res.below hb (by omega), h.sees.below hb, Nat.le_trans h.lt hb.size⟩
theorem RB.fin {w V : World} {args regs slots : Int} {FA : Option Addr} {bl bc n m p : Nat} {AA GA A1 : Option Addr} {gc c1 : Nat} {l : List Int} (h : RB w args regs slots FA bl bc AA l V) (hg : V.ownsRow (w.heap.size + 1 + 1) 2 1 (.slice GA n gc) n (ints (List.replicate n 0))) (ha : V.ownsRow (w.heap.size + 1 + 1) 2 1 (.slice A1 m c1) l.length (ints l)) (hp : Row V p 29 #[.int .i64 0, .int .i64 0, .int .i64 0, .int .i64 0, .slice none 0 0, .slice none 0 0, .slice none 0 0, .int .i64 0])
    (hn : ∀ k, (Value.slice GA n gc).ownBlock = some k → (Value.slice A1 m c1).ownBlock = some k → False) (hq : w.heap.size + 1 < p) :
    RxS w args regs slots FA bl bc p n GA gc l (.slice A1 m c1) ((((((((V.setCell ⟨p, 0, none⟩ (.int .i64 0)).setCell ⟨p, 1, none⟩ (.int .i64 0)).setCell ⟨p, 2, none⟩ (.int .i64 0)).setCell ⟨p, 3, none⟩ (.int .i64 0)).setCell ⟨p, 4, none⟩ (.slice GA n gc)).setCell ⟨p, 5, none⟩ (.slice A1 m c1)).setCell ⟨p, 6, none⟩ (.slice none 0 0)).setCell ⟨p, 7, none⟩ (.int .i64 0)) where
  below := blw8 (by omega) h.below _ _ _ _ _ _ _ _
  lt := hq
  box := h.box.mods (mods8 V p _ _ _ _ _ _ _ _) (by unfold Is; omega)
  res := h.res.mods (mods8 V p _ _ _ _ _ _ _ _) (by unfold Is; omega)
  out := hp.put8 _ _ _ _ _ _ _ _
  own := (mods8 V p _ _ _ _ _ _ _ _).ownS ha fun k hk hs => own_row_ne ha hp (by decide) k hk hs
  ownR := (mods8 V p _ _ _ _ _ _ _ _).ownS hg fun k hk hs => own_row_ne hg hp (by decide) k hk hs
  ne := hn
theorem RxS.step {w wr W : World} {args regs slots : Int} {FA : Option Addr} {bl bc p n : Nat} {GA : Option Addr} {gc : Nat} {l l' : List Int} {v v' : Value} (h : RxS w args regs slots FA bl bc p n GA gc l v wr) (o : Obj) (hg : (wr.alloc o).grownBy W v.ownBlock) (ho : W.ownsRow (w.heap.size + 1 + 1) 2 1 v' l'.length (ints l')) (ha : v'.ownBlock = v.ownBlock ∨ v'.ownBlock = some (wr.alloc o).heap.size) :
    Row W p 29 #[.int .i64 0, .int .i64 0, .int .i64 0, .int .i64 0, .slice GA n gc, v, .slice none 0 0, .int .i64 0] ∧ RxS w args regs slots FA bl bc p n GA gc l' v' (W.setCell ⟨p, 5, none⟩ v') := by
  have hne := own_row_ne h.own h.out (by decide)
  have hlt := h.lt
  have hb : Below (w.heap.size + 1 + 1) wr W := ((Below.refl _ wr).alloc (by have := h.out.lt; omega) o).grown hg (by have := h.out.lt; simp; omega) fun k hk => (ownS_lt h.own k hk).1
  have hr : Row W p 29 #[.int .i64 0, .int .i64 0, .int .i64 0, .int .i64 0, .slice GA n gc, v, .slice none 0 0, .int .i64 0] :=
    (hg.block p (by have := h.out.lt; simp; omega) fun e => hne p e.symm rfl).trans (h.out.alloc o)
  have hne2 := own_row_ne ho hr (by decide)
  have hmd : Mods (fun k => v.ownBlock = some k) wr W := ⟨hg.os, hg.tape, hg.output, Nat.le_trans (by simp) hg.size, fun k hk hn => (hg.block k (by simp; omega) fun e => hn e.symm).trans (Below.heap_alloc wr o k hk)⟩
  have hR := hmd.ownS h.ownR fun k hk hs => h.ne k hk hs
  have hner := own_row_ne hR hr (by decide)
  refine ⟨hr, (h.below.trans (hb.mono (by omega))).setCell (by show _ ≤ p; omega) _, h.lt, (h.box.below hb (by omega)).far (by show _ ≠ p; omega) _, (h.res.below hb (by omega)).far (by show _ ≠ p; omega) _, hr.put 5 v', ((Mods.refl (Is p) W).put 5 v').ownS ho fun k hk hs => hne2 k hk hs, ((Mods.refl (Is p) W).put 5 v').ownS hR fun k hk hs => hner k hk hs, fun k h1 h2 => ?_⟩
  rcases ha with ha | ha
  · exact h.ne k h1 (ha ▸ h2)
  · rw [ha] at h2
    have := (ownS_lt h.ownR k h1).2
    simp at h2
    omega

set_option maxRecDepth 100000 in
set_option maxHeartbeats 4000000 in
theorem xrstart_any (args : List Int) (n m : Nat) (B : Nat) (FA AA : Option Addr) (bl bc ac : Nat) (w : World) (hs : Sees w B AA (ints args)) (hB : B ≤ w.heap.size) (hn : n ≤ 1000) (hm : m ≤ 1000) (hl : args.length ≤ m) :
    Calls Try.prog 18 #[.agg #[.int .i64 args.length, .int .i64 n, .int .i64 m, .slice FA bl bc], .slice AA args.length ac] w (XP w (xn0 n m args)) := by
  obtain ⟨i0, hi, hz0, hz1, hz2⟩ := info_parts infoI64
  have hmk := fun w => run_make_row' (P := Try.prog) 25 2 (.int .i64 0) 8 Try.underlying25 infoI64 rfl .i64 .i64 n (by omega) (by omega) w
  have hbl0 : Below w.heap.size w ((w.alloc (.cells #[.int .i64 args.length, .int .i64 n, .int .i64 m, .slice FA bl bc] 24)).alloc (.cells #[.int .i64 0, .int .i64 0, .int .i64 0, .int .i64 0, .slice none 0 0, .slice none 0 0, .slice none 0 0, .int .i64 0] 29)) := ((Below.refl _ w).alloc (Nat.le_refl _) _).alloc (by simp) _
  have hbox := (Row.new w 24 #[.int .i64 args.length, .int .i64 n, .int .i64 m, .slice FA bl bc]).alloc (.cells #[.int .i64 0, .int .i64 0, .int .i64 0, .int .i64 0, .slice none 0 0, .slice none 0 0, .slice none 0 0, .int .i64 0] 29)
  have hres := Row.new' (W := w.alloc (.cells #[.int .i64 args.length, .int .i64 n, .int .i64 m, .slice FA bl bc] 24)) (p := w.heap.size + 1) (by simp) 29 #[.int .i64 0, .int .i64 0, .int .i64 0, .int .i64 0, .slice none 0 0, .slice none 0 0, .slice none 0 0, .int .i64 0]
  have hs1 := ((hs.more hB).below hbl0)
  clear hs
  go_enter Try.func18, Try.ntmps18
  go_upto_region 1 with fail
  generalize ((w.alloc (.cells #[.int .i64 args.length, .int .i64 n, .int .i64 m, .slice FA bl bc] 24)).alloc (.cells #[.int .i64 0, .int .i64 0, .int .i64 0, .int .i64 0, .slice none 0 0, .slice none 0 0, .slice none 0 0, .int .i64 0] 29)) = W0 at *
  have d1 := hbox.cell 1
  simp only [List.getElem?_toArray, List.getElem?_cons_zero, List.getElem?_cons_succ] at d1
  have HB : Hid (RB w args.length n m FA bl bc AA args W0.drew) := ⟨Below.drew hbl0, hbox, hres, hs1.more (by omega), by have := hres.lt; show w.heap.size + 1 + 1 ≤ W0.heap.size; omega⟩
  have hlo : w.heap.size + 1 < W0.heap.size := hres.lt
  clear hbl0 hs1 hbox hres
  go_cut [5] from 6 (fun s5 wx => ∃ (p : Nat) (GA : Option Addr) (gc : Nat) (A1 : Option Addr) (c1 : Nat), s5 = .pointer (some ⟨p, 0, none⟩) ∧ Hid (RxS w args.length n m FA bl bc p n GA gc args (.slice A1 args.length c1) wx))
  case first =>
    refine wp_region_held_drew (S := (fun w' => w'.cell? ⟨w.heap.size, 1, none⟩ = some (.int .i64 (n : Int)))) (by kernel_rfl) d1 (fun hHeld => ?_)
    generalize W0.drew = V0 at *
    have hlo0 := HB.out.lt
    refine take_at 0 6 (.pointer (some ⟨w.heap.size, 1, none⟩)) rfl rfl (by kernel_rfl) (by kernel_rfl) (by kernel_rfl) (fun _ _ _ h => h) (Or.inl ⟨by rfl, ?_⟩) hHeld ?_
    · intro w9 hSw
      (try dsimp only at hSw)
      go_simp
    (try simp only [Act.put, List.setIfInBounds_toArray, List.set_cons_zero, List.set_cons_succ])
    refine take_at 1 7 (.int .i64 n) rfl rfl (by kernel_rfl) (by kernel_rfl) (by kernel_rfl) (fun _ _ _ h => h) (Or.inl ⟨by rfl, ?_⟩) hHeld ?_
    · intro w9 hSw
      (try dsimp only at hSw)
      go_simp
    (try simp only [Act.put, List.setIfInBounds_toArray, List.set_cons_zero, List.set_cons_succ])
    refine take_at 4 10 (.slice AA args.length ac) rfl rfl (by kernel_rfl) (by kernel_rfl) (by kernel_rfl) (fun _ _ _ h => h) (Or.inl ⟨by rfl, ?_⟩) hHeld ?_
    · intro w9 hSw
      (try dsimp only at hSw)
      go_simp
    (try simp only [Act.put, List.setIfInBounds_toArray, List.set_cons_zero, List.set_cons_succ])
    refine wpAnyH_ready (rs := [2, 3, 7]) (by kernel_rfl) (by simp) ?_
    refine AllReadyH.cons rfl (fun K hK => ?_) ?_
    · go_simp
      have hba := (Below.refl V0.heap.size V0).alloc (Nat.le_refl _) (.cells (madeCells #[.int .i64 0] n) 2)
      have hBn := HB.out.next (hba.mono HB.out.lt)
      refine hK.out _ _ (hBn.box.cell 1) (fun hHeld => ?_)
      clear hK K
      have HG := Lib.hid (ownS_base (own_made V0 n hn) HB.out.lt)
      have hltg : V0.heap.size < (V0.alloc (.cells (madeCells #[.int .i64 0] n) 2)).heap.size := by simp
      clear HB hba
      have HB := Lib.hid hBn
      clear hBn
      generalize V0.alloc (.cells (madeCells #[.int .i64 0] n) 2) = V1 at *
      have hlo1 := HB.out.lt
      have hgeg : w.heap.size + 1 < V0.heap.size := by omega
      generalize V0.heap.size = g at *
      refine wpAnyH_ready (rs := [3, 7]) (by kernel_rfl) (by simp) ?_
      refine AllReadyH.cons rfl (fun K hK => ?_) ?_
      · go_simp
        have hba := (Below.refl V1.heap.size V1).alloc (Nat.le_refl _) (.cells #[] 2)
        have hBn := HB.out.next (hba.mono HB.out.lt)
        refine hK.out _ _ (hBn.box.cell 1) (fun hHeld => ?_)
        clear hK K
        have HGn := Lib.hid ((Mods.of_below (S := No) hba).ownS HG.out fun _ _ h => h)
        clear HG
        have HG := HGn
        clear HGn
        have HE := Lib.hid (ownS_base (own_empty V1 2 1) HB.out.lt)
        have hlte : V1.heap.size < (V1.alloc (.cells #[] 2)).heap.size := by simp
        have hltg2 : g < (V1.alloc (.cells #[] 2)).heap.size := by omega
        clear HB hba
        have HB := Lib.hid hBn
        clear hBn
        generalize V1.alloc (.cells #[] 2) = V2 at *
        have hlo2 := HB.out.lt
        have hnege : g ≠ V1.heap.size := by omega
        have hgee : w.heap.size + 1 < V1.heap.size := by omega
        generalize V1.heap.size = e at *
        refine wpAnyH_ready (rs := [5, 7]) (by kernel_rfl) (by simp) ?_
        refine AllReadyH.cons rfl (fun K hK => ?_) ?_
        · refine step_append_any _ rfl (.tmp 9) (.tmp 10) 25 rfl (w.heap.size + 1 + 1) 2 i0 _ 1 8 Try.underlying25 hi hz0 hz1 hz2 rfl (by decide) (.slice (some ⟨e, 0, none⟩) 0 0) 0 [] rfl HE.out (w.heap.size + 1 + 1) AA args.length ac (ints args) rfl HB.out.sees (by rw [ints_length]; omega) (ints_one _) (by unfold maxLen; omega) (by omega) HB.out.lt ?_
          intro v1 V3 ho1 hg1 ha1
          rw [Nat.zero_add, List.nil_append] at ho1
          obtain ⟨A1, c1, rfl, _, _⟩ := ownS_slice ho1
          have hmd : Mods (Is e) V2 V3 := ⟨hg1.os, hg1.tape, hg1.output, hg1.size, fun k hk hn => hg1.block k hk fun h9 => hn (by simp [Value.ownBlock] at h9; exact h9)⟩
          have heo := (ownS_lt HE.out e rfl).1
          have hbb : Below (w.heap.size + 1 + 1) V2 V3 := hmd.below HB.out.lt fun k hk => by unfold Is at hk; omega
          have hBn := HB.out.next hbb
          have HGn := Lib.hid (hmd.ownS HG.out fun k hk hs => by simp [Value.ownBlock] at hk; unfold Is at hs; omega)
          have HN := Lib.hid (fun k (h1 : (Value.slice (some ⟨g, 0, none⟩) n n).ownBlock = some k) (h2 : (Value.slice A1 args.length c1).ownBlock = some k) => (by
            simp only [Value.ownBlock, Option.some.injEq] at h1
            rcases ha1 with h3 | h3
            · rw [h3] at h2; simp only [Value.ownBlock, Option.some.injEq] at h2; omega
            · rw [h3] at h2; simp only [Option.some.injEq] at h2; omega : False))
          clear HG
          have HG := HGn
          clear HGn
          have HA := Lib.hid ho1
          have hltg3 : g < V3.heap.size := by have := hg1.size; omega
          have hlte3 : e < V3.heap.size := by have := hg1.size; omega
          clear HE HB ho1 hg1 ha1 hmd hbb heo
          have HB := Lib.hid hBn
          have hlo3 := hBn.lt
          clear hBn
          refine hK.out _ _ (HB.out.box.cell 1) (fun hHeld => ?_)
          clear hK K
          refine take_at 6 12 (.agg #[.int .i64 0, .int .i64 0, .int .i64 0, .int .i64 0, .slice (some ⟨g, 0, none⟩) n n, .slice A1 args.length c1, .slice none 0 0, .int .i64 0]) rfl rfl (by kernel_rfl) (by kernel_rfl) (by kernel_rfl) (fun _ _ _ h => h) (Or.inl ⟨by rfl, ?_⟩) hHeld ?_
          · intro w9 hSw
            (try dsimp only at hSw)
            go_simp
          (try simp only [Act.put, List.setIfInBounds_toArray, List.set_cons_zero, List.set_cons_succ])
          refine wpAnyH_ready (rs := [7]) (by kernel_rfl) (by simp) ?_
          refine AllReadyH.cons rfl (fun K hK => ?_) ?_
          · go_simp
            have hba := (Below.refl V3.heap.size V3).alloc (Nat.le_refl _) (.cells #[.int .i64 0, .int .i64 0, .int .i64 0, .int .i64 0, .slice none 0 0, .slice none 0 0, .slice none 0 0, .int .i64 0] 29)
            have hBn := HB.out.next (hba.mono HB.out.lt)
            refine hK.out _ _ (hBn.box.cell 1) (fun hHeld => ?_)
            clear hK K
            have HGn := Lib.hid ((Mods.of_below (S := No) hba).ownS HG.out fun _ _ h => h)
            clear HG
            have HG := HGn
            clear HGn
            have HAn := Lib.hid ((Mods.of_below (S := No) hba).ownS HA.out fun _ _ h => h)
            clear HA
            have HA := HAn
            clear HAn
            have HP := Lib.hid (Row.new V3 29 #[.int .i64 0, .int .i64 0, .int .i64 0, .int .i64 0, .slice none 0 0, .slice none 0 0, .slice none 0 0, .int .i64 0])
            have hltp : V3.heap.size < (V3.alloc (.cells #[.int .i64 0, .int .i64 0, .int .i64 0, .int .i64 0, .slice none 0 0, .slice none 0 0, .slice none 0 0, .int .i64 0] 29)).heap.size := by simp
            have hltg4 : g < (V3.alloc (.cells #[.int .i64 0, .int .i64 0, .int .i64 0, .int .i64 0, .slice none 0 0, .slice none 0 0, .slice none 0 0, .int .i64 0] 29)).heap.size := by omega
            have hlte4 : e < (V3.alloc (.cells #[.int .i64 0, .int .i64 0, .int .i64 0, .int .i64 0, .slice none 0 0, .slice none 0 0, .slice none 0 0, .int .i64 0] 29)).heap.size := by omega
            clear HB hba
            have HB := Lib.hid hBn
            clear hBn
            generalize V3.alloc (.cells #[.int .i64 0, .int .i64 0, .int .i64 0, .int .i64 0, .slice none 0 0, .slice none 0 0, .slice none 0 0, .int .i64 0] 29) = V4 at *
            have hlo4 := HB.out.lt
            have hnegp : g ≠ V3.heap.size := by omega
            have hneep : e ≠ V3.heap.size := by omega
            have hgep : w.heap.size + 1 < V3.heap.size := by omega
            generalize V3.heap.size = p at *
            refine wpAnyH_ready (rs := [8]) (by kernel_rfl) (by simp) ?_
            refine AllReadyH.cons rfl (fun K hK => ?_) ?_
            · have g0 := HP.out.cell 0; have g1 := HP.out.cell 1; have g2 := HP.out.cell 2; have g3 := HP.out.cell 3; have g4 := HP.out.cell 4; have g5 := HP.out.cell 5; have g6 := HP.out.cell 6; have g7 := HP.out.cell 7
              have r0 := HP.out.frozen 0; have r1 := HP.out.frozen 1; have r2 := HP.out.frozen 2; have r3 := HP.out.frozen 3; have r4 := HP.out.frozen 4; have r5 := HP.out.frozen 5; have r6 := HP.out.frozen 6; have r7 := HP.out.frozen 7
              simp only [List.getElem?_toArray, List.getElem?_cons_zero, List.getElem?_cons_succ] at g0 g1 g2 g3 g4 g5 g6 g7
              go_simp
              have HF := Lib.hid (RB.fin HB.out HG.out HA.out HP.out HN.out hgep)
              refine hK.out _ _ (HF.out.box.cell 1) (fun hHeld => ?_)
              clear hK K
              refine wpAnyH_done (by kernel_rfl) ?_ _
              clear hHeld
              go_wp2_with fail
              go_meet
              case rel => exact ⟨p, _, _, _, _, rfl, HF.out⟩
            exact AllReadyH.nil
          exact AllReadyH.nil
        refine AllReadyH.cons rfl (fun K hK => ?_) ?_
        · go_simp
          have hba := (Below.refl V2.heap.size V2).alloc (Nat.le_refl _) (.cells #[.int .i64 0, .int .i64 0, .int .i64 0, .int .i64 0, .slice none 0 0, .slice none 0 0, .slice none 0 0, .int .i64 0] 29)
          have hBn := HB.out.next (hba.mono HB.out.lt)
          refine hK.out _ _ (hBn.box.cell 1) (fun hHeld => ?_)
          clear hK K
          have HGn := Lib.hid ((Mods.of_below (S := No) hba).ownS HG.out fun _ _ h => h)
          clear HG
          have HG := HGn
          clear HGn
          have HEn := Lib.hid ((Mods.of_below (S := No) hba).ownS HE.out fun _ _ h => h)
          clear HE
          have HE := HEn
          clear HEn
          have HP := Lib.hid (Row.new V2 29 #[.int .i64 0, .int .i64 0, .int .i64 0, .int .i64 0, .slice none 0 0, .slice none 0 0, .slice none 0 0, .int .i64 0])
          have hltp : V2.heap.size < (V2.alloc (.cells #[.int .i64 0, .int .i64 0, .int .i64 0, .int .i64 0, .slice none 0 0, .slice none 0 0, .slice none 0 0, .int .i64 0] 29)).heap.size := by simp
          have hltg3 : g < (V2.alloc (.cells #[.int .i64 0, .int .i64 0, .int .i64 0, .int .i64 0, .slice none 0 0, .slice none 0 0, .slice none 0 0, .int .i64 0] 29)).heap.size := by omega
          have hlte3 : e < (V2.alloc (.cells #[.int .i64 0, .int .i64 0, .int .i64 0, .int .i64 0, .slice none 0 0, .slice none 0 0, .slice none 0 0, .int .i64 0] 29)).heap.size := by omega
          clear HB hba
          have HB := Lib.hid hBn
          clear hBn
          generalize V2.alloc (.cells #[.int .i64 0, .int .i64 0, .int .i64 0, .int .i64 0, .slice none 0 0, .slice none 0 0, .slice none 0 0, .int .i64 0] 29) = V3 at *
          have hlo3 := HB.out.lt
          have hnegp : g ≠ V2.heap.size := by omega
          have hneep : e ≠ V2.heap.size := by omega
          have hgep : w.heap.size + 1 < V2.heap.size := by omega
          generalize V2.heap.size = p at *
          refine wpAnyH_ready (rs := [5]) (by kernel_rfl) (by simp) ?_
          refine AllReadyH.cons rfl (fun K hK => ?_) ?_
          · refine step_append_any _ rfl (.tmp 9) (.tmp 10) 25 rfl (w.heap.size + 1 + 1) 2 i0 _ 1 8 Try.underlying25 hi hz0 hz1 hz2 rfl (by decide) (.slice (some ⟨e, 0, none⟩) 0 0) 0 [] rfl HE.out (w.heap.size + 1 + 1) AA args.length ac (ints args) rfl HB.out.sees (by rw [ints_length]; omega) (ints_one _) (by unfold maxLen; omega) (by omega) HB.out.lt ?_
            intro v1 V4 ho1 hg1 ha1
            rw [Nat.zero_add, List.nil_append] at ho1
            obtain ⟨A1, c1, rfl, _, _⟩ := ownS_slice ho1
            have hmd : Mods (Is e) V3 V4 := ⟨hg1.os, hg1.tape, hg1.output, hg1.size, fun k hk hn => hg1.block k hk fun h9 => hn (by simp [Value.ownBlock] at h9; exact h9)⟩
            have heo := (ownS_lt HE.out e rfl).1
            have hbb : Below (w.heap.size + 1 + 1) V3 V4 := hmd.below HB.out.lt fun k hk => by unfold Is at hk; omega
            have hBn := HB.out.next hbb
            have HGn := Lib.hid (hmd.ownS HG.out fun k hk hs => by simp [Value.ownBlock] at hk; unfold Is at hs; omega)
            have HN := Lib.hid (fun k (h1 : (Value.slice (some ⟨g, 0, none⟩) n n).ownBlock = some k) (h2 : (Value.slice A1 args.length c1).ownBlock = some k) => (by
              simp only [Value.ownBlock, Option.some.injEq] at h1
              rcases ha1 with h3 | h3
              · rw [h3] at h2; simp only [Value.ownBlock, Option.some.injEq] at h2; omega
              · rw [h3] at h2; simp only [Option.some.injEq] at h2; omega : False))
            clear HG
            have HG := HGn
            clear HGn
            have HPn := Lib.hid (HP.out.mods hmd (by unfold Is; omega))
            clear HP
            have HP := HPn
            clear HPn
            have HA := Lib.hid ho1
            have hltg4 : g < V4.heap.size := by have := hg1.size; omega
            have hlte4 : e < V4.heap.size := by have := hg1.size; omega
            have hltp4 : p < V4.heap.size := by have := hg1.size; omega
            clear HE HB ho1 hg1 ha1 hmd hbb heo
            have HB := Lib.hid hBn
            have hlo4 := hBn.lt
            clear hBn
            refine hK.out _ _ (HB.out.box.cell 1) (fun hHeld => ?_)
            clear hK K
            refine take_at 6 12 (.agg #[.int .i64 0, .int .i64 0, .int .i64 0, .int .i64 0, .slice (some ⟨g, 0, none⟩) n n, .slice A1 args.length c1, .slice none 0 0, .int .i64 0]) rfl rfl (by kernel_rfl) (by kernel_rfl) (by kernel_rfl) (fun _ _ _ h => h) (Or.inl ⟨by rfl, ?_⟩) hHeld ?_
            · intro w9 hSw
              (try dsimp only at hSw)
              go_simp
            (try simp only [Act.put, List.setIfInBounds_toArray, List.set_cons_zero, List.set_cons_succ])
            refine wpAnyH_ready (rs := [8]) (by kernel_rfl) (by simp) ?_
            refine AllReadyH.cons rfl (fun K hK => ?_) ?_
            · have g0 := HP.out.cell 0; have g1 := HP.out.cell 1; have g2 := HP.out.cell 2; have g3 := HP.out.cell 3; have g4 := HP.out.cell 4; have g5 := HP.out.cell 5; have g6 := HP.out.cell 6; have g7 := HP.out.cell 7
              have r0 := HP.out.frozen 0; have r1 := HP.out.frozen 1; have r2 := HP.out.frozen 2; have r3 := HP.out.frozen 3; have r4 := HP.out.frozen 4; have r5 := HP.out.frozen 5; have r6 := HP.out.frozen 6; have r7 := HP.out.frozen 7
              simp only [List.getElem?_toArray, List.getElem?_cons_zero, List.getElem?_cons_succ] at g0 g1 g2 g3 g4 g5 g6 g7
              go_simp
              have HF := Lib.hid (RB.fin HB.out HG.out HA.out HP.out HN.out hgep)
              refine hK.out _ _ (HF.out.box.cell 1) (fun hHeld => ?_)
              clear hK K
              refine wpAnyH_done (by kernel_rfl) ?_ _
              clear hHeld
              go_wp2_with fail
              go_meet
              case rel => exact ⟨p, _, _, _, _, rfl, HF.out⟩
            exact AllReadyH.nil
          exact AllReadyH.nil
        exact AllReadyH.nil
      refine AllReadyH.cons rfl (fun K hK => ?_) ?_
      · go_simp
        have hba := (Below.refl V1.heap.size V1).alloc (Nat.le_refl _) (.cells #[.int .i64 0, .int .i64 0, .int .i64 0, .int .i64 0, .slice none 0 0, .slice none 0 0, .slice none 0 0, .int .i64 0] 29)
        have hBn := HB.out.next (hba.mono HB.out.lt)
        refine hK.out _ _ (hBn.box.cell 1) (fun hHeld => ?_)
        clear hK K
        have HGn := Lib.hid ((Mods.of_below (S := No) hba).ownS HG.out fun _ _ h => h)
        clear HG
        have HG := HGn
        clear HGn
        have HP := Lib.hid (Row.new V1 29 #[.int .i64 0, .int .i64 0, .int .i64 0, .int .i64 0, .slice none 0 0, .slice none 0 0, .slice none 0 0, .int .i64 0])
        have hltp : V1.heap.size < (V1.alloc (.cells #[.int .i64 0, .int .i64 0, .int .i64 0, .int .i64 0, .slice none 0 0, .slice none 0 0, .slice none 0 0, .int .i64 0] 29)).heap.size := by simp
        have hltg2 : g < (V1.alloc (.cells #[.int .i64 0, .int .i64 0, .int .i64 0, .int .i64 0, .slice none 0 0, .slice none 0 0, .slice none 0 0, .int .i64 0] 29)).heap.size := by omega
        clear HB hba
        have HB := Lib.hid hBn
        clear hBn
        generalize V1.alloc (.cells #[.int .i64 0, .int .i64 0, .int .i64 0, .int .i64 0, .slice none 0 0, .slice none 0 0, .slice none 0 0, .int .i64 0] 29) = V2 at *
        have hlo2 := HB.out.lt
        have hnegp : g ≠ V1.heap.size := by omega
        have hgep : w.heap.size + 1 < V1.heap.size := by omega
        generalize V1.heap.size = p at *
        refine wpAnyH_ready (rs := [3]) (by kernel_rfl) (by simp) ?_
        refine AllReadyH.cons rfl (fun K hK => ?_) ?_
        · go_simp
          have hba := (Below.refl V2.heap.size V2).alloc (Nat.le_refl _) (.cells #[] 2)
          have hBn := HB.out.next (hba.mono HB.out.lt)
          refine hK.out _ _ (hBn.box.cell 1) (fun hHeld => ?_)
          clear hK K
          have HGn := Lib.hid ((Mods.of_below (S := No) hba).ownS HG.out fun _ _ h => h)
          clear HG
          have HG := HGn
          clear HGn
          have HPn := Lib.hid (HP.out.below hba HP.out.lt)
          clear HP
          have HP := HPn
          clear HPn
          have HE := Lib.hid (ownS_base (own_empty V2 2 1) HB.out.lt)
          have hlte : V2.heap.size < (V2.alloc (.cells #[] 2)).heap.size := by simp
          have hltg3 : g < (V2.alloc (.cells #[] 2)).heap.size := by omega
          have hltp3 : p < (V2.alloc (.cells #[] 2)).heap.size := by omega
          clear HB hba
          have HB := Lib.hid hBn
          clear hBn
          generalize V2.alloc (.cells #[] 2) = V3 at *
          have hlo3 := HB.out.lt
          have hnege : g ≠ V2.heap.size := by omega
          have hnepe : p ≠ V2.heap.size := by omega
          have hgee : w.heap.size + 1 < V2.heap.size := by omega
          generalize V2.heap.size = e at *
          refine wpAnyH_ready (rs := [5]) (by kernel_rfl) (by simp) ?_
          refine AllReadyH.cons rfl (fun K hK => ?_) ?_
          · refine step_append_any _ rfl (.tmp 9) (.tmp 10) 25 rfl (w.heap.size + 1 + 1) 2 i0 _ 1 8 Try.underlying25 hi hz0 hz1 hz2 rfl (by decide) (.slice (some ⟨e, 0, none⟩) 0 0) 0 [] rfl HE.out (w.heap.size + 1 + 1) AA args.length ac (ints args) rfl HB.out.sees (by rw [ints_length]; omega) (ints_one _) (by unfold maxLen; omega) (by omega) HB.out.lt ?_
            intro v1 V4 ho1 hg1 ha1
            rw [Nat.zero_add, List.nil_append] at ho1
            obtain ⟨A1, c1, rfl, _, _⟩ := ownS_slice ho1
            have hmd : Mods (Is e) V3 V4 := ⟨hg1.os, hg1.tape, hg1.output, hg1.size, fun k hk hn => hg1.block k hk fun h9 => hn (by simp [Value.ownBlock] at h9; exact h9)⟩
            have heo := (ownS_lt HE.out e rfl).1
            have hbb : Below (w.heap.size + 1 + 1) V3 V4 := hmd.below HB.out.lt fun k hk => by unfold Is at hk; omega
            have hBn := HB.out.next hbb
            have HGn := Lib.hid (hmd.ownS HG.out fun k hk hs => by simp [Value.ownBlock] at hk; unfold Is at hs; omega)
            have HN := Lib.hid (fun k (h1 : (Value.slice (some ⟨g, 0, none⟩) n n).ownBlock = some k) (h2 : (Value.slice A1 args.length c1).ownBlock = some k) => (by
              simp only [Value.ownBlock, Option.some.injEq] at h1
              rcases ha1 with h3 | h3
              · rw [h3] at h2; simp only [Value.ownBlock, Option.some.injEq] at h2; omega
              · rw [h3] at h2; simp only [Option.some.injEq] at h2; omega : False))
            clear HG
            have HG := HGn
            clear HGn
            have HPn := Lib.hid (HP.out.mods hmd (by unfold Is; omega))
            clear HP
            have HP := HPn
            clear HPn
            have HA := Lib.hid ho1
            have hltg4 : g < V4.heap.size := by have := hg1.size; omega
            have hltp4 : p < V4.heap.size := by have := hg1.size; omega
            have hlte4 : e < V4.heap.size := by have := hg1.size; omega
            clear HE HB ho1 hg1 ha1 hmd hbb heo
            have HB := Lib.hid hBn
            have hlo4 := hBn.lt
            clear hBn
            refine hK.out _ _ (HB.out.box.cell 1) (fun hHeld => ?_)
            clear hK K
            refine take_at 6 12 (.agg #[.int .i64 0, .int .i64 0, .int .i64 0, .int .i64 0, .slice (some ⟨g, 0, none⟩) n n, .slice A1 args.length c1, .slice none 0 0, .int .i64 0]) rfl rfl (by kernel_rfl) (by kernel_rfl) (by kernel_rfl) (fun _ _ _ h => h) (Or.inl ⟨by rfl, ?_⟩) hHeld ?_
            · intro w9 hSw
              (try dsimp only at hSw)
              go_simp
            (try simp only [Act.put, List.setIfInBounds_toArray, List.set_cons_zero, List.set_cons_succ])
            refine wpAnyH_ready (rs := [8]) (by kernel_rfl) (by simp) ?_
            refine AllReadyH.cons rfl (fun K hK => ?_) ?_
            · have g0 := HP.out.cell 0; have g1 := HP.out.cell 1; have g2 := HP.out.cell 2; have g3 := HP.out.cell 3; have g4 := HP.out.cell 4; have g5 := HP.out.cell 5; have g6 := HP.out.cell 6; have g7 := HP.out.cell 7
              have r0 := HP.out.frozen 0; have r1 := HP.out.frozen 1; have r2 := HP.out.frozen 2; have r3 := HP.out.frozen 3; have r4 := HP.out.frozen 4; have r5 := HP.out.frozen 5; have r6 := HP.out.frozen 6; have r7 := HP.out.frozen 7
              simp only [List.getElem?_toArray, List.getElem?_cons_zero, List.getElem?_cons_succ] at g0 g1 g2 g3 g4 g5 g6 g7
              go_simp
              have HF := Lib.hid (RB.fin HB.out HG.out HA.out HP.out HN.out hgep)
              refine hK.out _ _ (HF.out.box.cell 1) (fun hHeld => ?_)
              clear hK K
              refine wpAnyH_done (by kernel_rfl) ?_ _
              clear hHeld
              go_wp2_with fail
              go_meet
              case rel => exact ⟨p, _, _, _, _, rfl, HF.out⟩
            exact AllReadyH.nil
          exact AllReadyH.nil
        exact AllReadyH.nil
      exact AllReadyH.nil
    refine AllReadyH.cons rfl (fun K hK => ?_) ?_
    · go_simp
      have hba := (Below.refl V0.heap.size V0).alloc (Nat.le_refl _) (.cells #[] 2)
      have hBn := HB.out.next (hba.mono HB.out.lt)
      refine hK.out _ _ (hBn.box.cell 1) (fun hHeld => ?_)
      clear hK K
      have HE := Lib.hid (ownS_base (own_empty V0 2 1) HB.out.lt)
      have hlte : V0.heap.size < (V0.alloc (.cells #[] 2)).heap.size := by simp
      clear HB hba
      have HB := Lib.hid hBn
      clear hBn
      generalize V0.alloc (.cells #[] 2) = V1 at *
      have hlo1 := HB.out.lt
      have hgee : w.heap.size + 1 < V0.heap.size := by omega
      generalize V0.heap.size = e at *
      refine wpAnyH_ready (rs := [2, 5, 7]) (by kernel_rfl) (by simp) ?_
      refine AllReadyH.cons rfl (fun K hK => ?_) ?_
      · go_simp
        have hba := (Below.refl V1.heap.size V1).alloc (Nat.le_refl _) (.cells (madeCells #[.int .i64 0] n) 2)
        have hBn := HB.out.next (hba.mono HB.out.lt)
        refine hK.out _ _ (hBn.box.cell 1) (fun hHeld => ?_)
        clear hK K
        have HEn := Lib.hid ((Mods.of_below (S := No) hba).ownS HE.out fun _ _ h => h)
        clear HE
        have HE := HEn
        clear HEn
        have HG := Lib.hid (ownS_base (own_made V1 n hn) HB.out.lt)
        have hltg : V1.heap.size < (V1.alloc (.cells (madeCells #[.int .i64 0] n) 2)).heap.size := by simp
        have hlte2 : e < (V1.alloc (.cells (madeCells #[.int .i64 0] n) 2)).heap.size := by omega
        clear HB hba
        have HB := Lib.hid hBn
        clear hBn
        generalize V1.alloc (.cells (madeCells #[.int .i64 0] n) 2) = V2 at *
        have hlo2 := HB.out.lt
        have hneeg : e ≠ V1.heap.size := by omega
        have hgeg : w.heap.size + 1 < V1.heap.size := by omega
        generalize V1.heap.size = g at *
        refine wpAnyH_ready (rs := [5, 7]) (by kernel_rfl) (by simp) ?_
        refine AllReadyH.cons rfl (fun K hK => ?_) ?_
        · refine step_append_any _ rfl (.tmp 9) (.tmp 10) 25 rfl (w.heap.size + 1 + 1) 2 i0 _ 1 8 Try.underlying25 hi hz0 hz1 hz2 rfl (by decide) (.slice (some ⟨e, 0, none⟩) 0 0) 0 [] rfl HE.out (w.heap.size + 1 + 1) AA args.length ac (ints args) rfl HB.out.sees (by rw [ints_length]; omega) (ints_one _) (by unfold maxLen; omega) (by omega) HB.out.lt ?_
          intro v1 V3 ho1 hg1 ha1
          rw [Nat.zero_add, List.nil_append] at ho1
          obtain ⟨A1, c1, rfl, _, _⟩ := ownS_slice ho1
          have hmd : Mods (Is e) V2 V3 := ⟨hg1.os, hg1.tape, hg1.output, hg1.size, fun k hk hn => hg1.block k hk fun h9 => hn (by simp [Value.ownBlock] at h9; exact h9)⟩
          have heo := (ownS_lt HE.out e rfl).1
          have hbb : Below (w.heap.size + 1 + 1) V2 V3 := hmd.below HB.out.lt fun k hk => by unfold Is at hk; omega
          have hBn := HB.out.next hbb
          have HGn := Lib.hid (hmd.ownS HG.out fun k hk hs => by simp [Value.ownBlock] at hk; unfold Is at hs; omega)
          have HN := Lib.hid (fun k (h1 : (Value.slice (some ⟨g, 0, none⟩) n n).ownBlock = some k) (h2 : (Value.slice A1 args.length c1).ownBlock = some k) => (by
            simp only [Value.ownBlock, Option.some.injEq] at h1
            rcases ha1 with h3 | h3
            · rw [h3] at h2; simp only [Value.ownBlock, Option.some.injEq] at h2; omega
            · rw [h3] at h2; simp only [Option.some.injEq] at h2; omega : False))
          clear HG
          have HG := HGn
          clear HGn
          have HA := Lib.hid ho1
          have hlte3 : e < V3.heap.size := by have := hg1.size; omega
          have hltg3 : g < V3.heap.size := by have := hg1.size; omega
          clear HE HB ho1 hg1 ha1 hmd hbb heo
          have HB := Lib.hid hBn
          have hlo3 := hBn.lt
          clear hBn
          refine hK.out _ _ (HB.out.box.cell 1) (fun hHeld => ?_)
          clear hK K
          refine take_at 6 12 (.agg #[.int .i64 0, .int .i64 0, .int .i64 0, .int .i64 0, .slice (some ⟨g, 0, none⟩) n n, .slice A1 args.length c1, .slice none 0 0, .int .i64 0]) rfl rfl (by kernel_rfl) (by kernel_rfl) (by kernel_rfl) (fun _ _ _ h => h) (Or.inl ⟨by rfl, ?_⟩) hHeld ?_
          · intro w9 hSw
            (try dsimp only at hSw)
            go_simp
          (try simp only [Act.put, List.setIfInBounds_toArray, List.set_cons_zero, List.set_cons_succ])
          refine wpAnyH_ready (rs := [7]) (by kernel_rfl) (by simp) ?_
          refine AllReadyH.cons rfl (fun K hK => ?_) ?_
          · go_simp
            have hba := (Below.refl V3.heap.size V3).alloc (Nat.le_refl _) (.cells #[.int .i64 0, .int .i64 0, .int .i64 0, .int .i64 0, .slice none 0 0, .slice none 0 0, .slice none 0 0, .int .i64 0] 29)
            have hBn := HB.out.next (hba.mono HB.out.lt)
            refine hK.out _ _ (hBn.box.cell 1) (fun hHeld => ?_)
            clear hK K
            have HGn := Lib.hid ((Mods.of_below (S := No) hba).ownS HG.out fun _ _ h => h)
            clear HG
            have HG := HGn
            clear HGn
            have HAn := Lib.hid ((Mods.of_below (S := No) hba).ownS HA.out fun _ _ h => h)
            clear HA
            have HA := HAn
            clear HAn
            have HP := Lib.hid (Row.new V3 29 #[.int .i64 0, .int .i64 0, .int .i64 0, .int .i64 0, .slice none 0 0, .slice none 0 0, .slice none 0 0, .int .i64 0])
            have hltp : V3.heap.size < (V3.alloc (.cells #[.int .i64 0, .int .i64 0, .int .i64 0, .int .i64 0, .slice none 0 0, .slice none 0 0, .slice none 0 0, .int .i64 0] 29)).heap.size := by simp
            have hlte4 : e < (V3.alloc (.cells #[.int .i64 0, .int .i64 0, .int .i64 0, .int .i64 0, .slice none 0 0, .slice none 0 0, .slice none 0 0, .int .i64 0] 29)).heap.size := by omega
            have hltg4 : g < (V3.alloc (.cells #[.int .i64 0, .int .i64 0, .int .i64 0, .int .i64 0, .slice none 0 0, .slice none 0 0, .slice none 0 0, .int .i64 0] 29)).heap.size := by omega
            clear HB hba
            have HB := Lib.hid hBn
            clear hBn
            generalize V3.alloc (.cells #[.int .i64 0, .int .i64 0, .int .i64 0, .int .i64 0, .slice none 0 0, .slice none 0 0, .slice none 0 0, .int .i64 0] 29) = V4 at *
            have hlo4 := HB.out.lt
            have hneep : e ≠ V3.heap.size := by omega
            have hnegp : g ≠ V3.heap.size := by omega
            have hgep : w.heap.size + 1 < V3.heap.size := by omega
            generalize V3.heap.size = p at *
            refine wpAnyH_ready (rs := [8]) (by kernel_rfl) (by simp) ?_
            refine AllReadyH.cons rfl (fun K hK => ?_) ?_
            · have g0 := HP.out.cell 0; have g1 := HP.out.cell 1; have g2 := HP.out.cell 2; have g3 := HP.out.cell 3; have g4 := HP.out.cell 4; have g5 := HP.out.cell 5; have g6 := HP.out.cell 6; have g7 := HP.out.cell 7
              have r0 := HP.out.frozen 0; have r1 := HP.out.frozen 1; have r2 := HP.out.frozen 2; have r3 := HP.out.frozen 3; have r4 := HP.out.frozen 4; have r5 := HP.out.frozen 5; have r6 := HP.out.frozen 6; have r7 := HP.out.frozen 7
              simp only [List.getElem?_toArray, List.getElem?_cons_zero, List.getElem?_cons_succ] at g0 g1 g2 g3 g4 g5 g6 g7
              go_simp
              have HF := Lib.hid (RB.fin HB.out HG.out HA.out HP.out HN.out hgep)
              refine hK.out _ _ (HF.out.box.cell 1) (fun hHeld => ?_)
              clear hK K
              refine wpAnyH_done (by kernel_rfl) ?_ _
              clear hHeld
              go_wp2_with fail
              go_meet
              case rel => exact ⟨p, _, _, _, _, rfl, HF.out⟩
            exact AllReadyH.nil
          exact AllReadyH.nil
        refine AllReadyH.cons rfl (fun K hK => ?_) ?_
        · go_simp
          have hba := (Below.refl V2.heap.size V2).alloc (Nat.le_refl _) (.cells #[.int .i64 0, .int .i64 0, .int .i64 0, .int .i64 0, .slice none 0 0, .slice none 0 0, .slice none 0 0, .int .i64 0] 29)
          have hBn := HB.out.next (hba.mono HB.out.lt)
          refine hK.out _ _ (hBn.box.cell 1) (fun hHeld => ?_)
          clear hK K
          have HGn := Lib.hid ((Mods.of_below (S := No) hba).ownS HG.out fun _ _ h => h)
          clear HG
          have HG := HGn
          clear HGn
          have HEn := Lib.hid ((Mods.of_below (S := No) hba).ownS HE.out fun _ _ h => h)
          clear HE
          have HE := HEn
          clear HEn
          have HP := Lib.hid (Row.new V2 29 #[.int .i64 0, .int .i64 0, .int .i64 0, .int .i64 0, .slice none 0 0, .slice none 0 0, .slice none 0 0, .int .i64 0])
          have hltp : V2.heap.size < (V2.alloc (.cells #[.int .i64 0, .int .i64 0, .int .i64 0, .int .i64 0, .slice none 0 0, .slice none 0 0, .slice none 0 0, .int .i64 0] 29)).heap.size := by simp
          have hlte3 : e < (V2.alloc (.cells #[.int .i64 0, .int .i64 0, .int .i64 0, .int .i64 0, .slice none 0 0, .slice none 0 0, .slice none 0 0, .int .i64 0] 29)).heap.size := by omega
          have hltg3 : g < (V2.alloc (.cells #[.int .i64 0, .int .i64 0, .int .i64 0, .int .i64 0, .slice none 0 0, .slice none 0 0, .slice none 0 0, .int .i64 0] 29)).heap.size := by omega
          clear HB hba
          have HB := Lib.hid hBn
          clear hBn
          generalize V2.alloc (.cells #[.int .i64 0, .int .i64 0, .int .i64 0, .int .i64 0, .slice none 0 0, .slice none 0 0, .slice none 0 0, .int .i64 0] 29) = V3 at *
          have hlo3 := HB.out.lt
          have hneep : e ≠ V2.heap.size := by omega
          have hnegp : g ≠ V2.heap.size := by omega
          have hgep : w.heap.size + 1 < V2.heap.size := by omega
          generalize V2.heap.size = p at *
          refine wpAnyH_ready (rs := [5]) (by kernel_rfl) (by simp) ?_
          refine AllReadyH.cons rfl (fun K hK => ?_) ?_
          · refine step_append_any _ rfl (.tmp 9) (.tmp 10) 25 rfl (w.heap.size + 1 + 1) 2 i0 _ 1 8 Try.underlying25 hi hz0 hz1 hz2 rfl (by decide) (.slice (some ⟨e, 0, none⟩) 0 0) 0 [] rfl HE.out (w.heap.size + 1 + 1) AA args.length ac (ints args) rfl HB.out.sees (by rw [ints_length]; omega) (ints_one _) (by unfold maxLen; omega) (by omega) HB.out.lt ?_
            intro v1 V4 ho1 hg1 ha1
            rw [Nat.zero_add, List.nil_append] at ho1
            obtain ⟨A1, c1, rfl, _, _⟩ := ownS_slice ho1
            have hmd : Mods (Is e) V3 V4 := ⟨hg1.os, hg1.tape, hg1.output, hg1.size, fun k hk hn => hg1.block k hk fun h9 => hn (by simp [Value.ownBlock] at h9; exact h9)⟩
            have heo := (ownS_lt HE.out e rfl).1
            have hbb : Below (w.heap.size + 1 + 1) V3 V4 := hmd.below HB.out.lt fun k hk => by unfold Is at hk; omega
            have hBn := HB.out.next hbb
            have HGn := Lib.hid (hmd.ownS HG.out fun k hk hs => by simp [Value.ownBlock] at hk; unfold Is at hs; omega)
            have HN := Lib.hid (fun k (h1 : (Value.slice (some ⟨g, 0, none⟩) n n).ownBlock = some k) (h2 : (Value.slice A1 args.length c1).ownBlock = some k) => (by
              simp only [Value.ownBlock, Option.some.injEq] at h1
              rcases ha1 with h3 | h3
              · rw [h3] at h2; simp only [Value.ownBlock, Option.some.injEq] at h2; omega
              · rw [h3] at h2; simp only [Option.some.injEq] at h2; omega : False))
            clear HG
            have HG := HGn
            clear HGn
            have HPn := Lib.hid (HP.out.mods hmd (by unfold Is; omega))
            clear HP
            have HP := HPn
            clear HPn
            have HA := Lib.hid ho1
            have hlte4 : e < V4.heap.size := by have := hg1.size; omega
            have hltg4 : g < V4.heap.size := by have := hg1.size; omega
            have hltp4 : p < V4.heap.size := by have := hg1.size; omega
            clear HE HB ho1 hg1 ha1 hmd hbb heo
            have HB := Lib.hid hBn
            have hlo4 := hBn.lt
            clear hBn
            refine hK.out _ _ (HB.out.box.cell 1) (fun hHeld => ?_)
            clear hK K
            refine take_at 6 12 (.agg #[.int .i64 0, .int .i64 0, .int .i64 0, .int .i64 0, .slice (some ⟨g, 0, none⟩) n n, .slice A1 args.length c1, .slice none 0 0, .int .i64 0]) rfl rfl (by kernel_rfl) (by kernel_rfl) (by kernel_rfl) (fun _ _ _ h => h) (Or.inl ⟨by rfl, ?_⟩) hHeld ?_
            · intro w9 hSw
              (try dsimp only at hSw)
              go_simp
            (try simp only [Act.put, List.setIfInBounds_toArray, List.set_cons_zero, List.set_cons_succ])
            refine wpAnyH_ready (rs := [8]) (by kernel_rfl) (by simp) ?_
            refine AllReadyH.cons rfl (fun K hK => ?_) ?_
            · have g0 := HP.out.cell 0; have g1 := HP.out.cell 1; have g2 := HP.out.cell 2; have g3 := HP.out.cell 3; have g4 := HP.out.cell 4; have g5 := HP.out.cell 5; have g6 := HP.out.cell 6; have g7 := HP.out.cell 7
              have r0 := HP.out.frozen 0; have r1 := HP.out.frozen 1; have r2 := HP.out.frozen 2; have r3 := HP.out.frozen 3; have r4 := HP.out.frozen 4; have r5 := HP.out.frozen 5; have r6 := HP.out.frozen 6; have r7 := HP.out.frozen 7
              simp only [List.getElem?_toArray, List.getElem?_cons_zero, List.getElem?_cons_succ] at g0 g1 g2 g3 g4 g5 g6 g7
              go_simp
              have HF := Lib.hid (RB.fin HB.out HG.out HA.out HP.out HN.out hgep)
              refine hK.out _ _ (HF.out.box.cell 1) (fun hHeld => ?_)
              clear hK K
              refine wpAnyH_done (by kernel_rfl) ?_ _
              clear hHeld
              go_wp2_with fail
              go_meet
              case rel => exact ⟨p, _, _, _, _, rfl, HF.out⟩
            exact AllReadyH.nil
          exact AllReadyH.nil
        exact AllReadyH.nil
      refine AllReadyH.cons rfl (fun K hK => ?_) ?_
      · refine step_append_any _ rfl (.tmp 9) (.tmp 10) 25 rfl (w.heap.size + 1 + 1) 2 i0 _ 1 8 Try.underlying25 hi hz0 hz1 hz2 rfl (by decide) (.slice (some ⟨e, 0, none⟩) 0 0) 0 [] rfl HE.out (w.heap.size + 1 + 1) AA args.length ac (ints args) rfl HB.out.sees (by rw [ints_length]; omega) (ints_one _) (by unfold maxLen; omega) (by omega) HB.out.lt ?_
        intro v1 V2 ho1 hg1 ha1
        rw [Nat.zero_add, List.nil_append] at ho1
        obtain ⟨A1, c1, rfl, _, _⟩ := ownS_slice ho1
        have hmd : Mods (Is e) V1 V2 := ⟨hg1.os, hg1.tape, hg1.output, hg1.size, fun k hk hn => hg1.block k hk fun h9 => hn (by simp [Value.ownBlock] at h9; exact h9)⟩
        have heo := (ownS_lt HE.out e rfl).1
        have hbb : Below (w.heap.size + 1 + 1) V1 V2 := hmd.below HB.out.lt fun k hk => by unfold Is at hk; omega
        have hBn := HB.out.next hbb
        have HA := Lib.hid ho1
        have hlte2 : e < V2.heap.size := by have := hg1.size; omega
        clear HE HB ho1 hg1 ha1 hmd hbb heo
        have HB := Lib.hid hBn
        have hlo2 := hBn.lt
        clear hBn
        refine hK.out _ _ (HB.out.box.cell 1) (fun hHeld => ?_)
        clear hK K
        refine wpAnyH_ready (rs := [2, 7]) (by kernel_rfl) (by simp) ?_
        refine AllReadyH.cons rfl (fun K hK => ?_) ?_
        · go_simp
          have hba := (Below.refl V2.heap.size V2).alloc (Nat.le_refl _) (.cells (madeCells #[.int .i64 0] n) 2)
          have hBn := HB.out.next (hba.mono HB.out.lt)
          refine hK.out _ _ (hBn.box.cell 1) (fun hHeld => ?_)
          clear hK K
          have HN := Lib.hid (fun k (h1 : (Value.slice (some ⟨V2.heap.size, 0, none⟩) n n).ownBlock = some k) (h2 : (Value.slice A1 args.length c1).ownBlock = some k) => (by have := (ownS_lt HA.out k h2).2; simp [Value.ownBlock] at h1; omega : False))
          have HAn := Lib.hid ((Mods.of_below (S := No) hba).ownS HA.out fun _ _ h => h)
          clear HA
          have HA := HAn
          clear HAn
          have HG := Lib.hid (ownS_base (own_made V2 n hn) HB.out.lt)
          have hltg : V2.heap.size < (V2.alloc (.cells (madeCells #[.int .i64 0] n) 2)).heap.size := by simp
          have hlte3 : e < (V2.alloc (.cells (madeCells #[.int .i64 0] n) 2)).heap.size := by omega
          clear HB hba
          have HB := Lib.hid hBn
          clear hBn
          generalize V2.alloc (.cells (madeCells #[.int .i64 0] n) 2) = V3 at *
          have hlo3 := HB.out.lt
          have hneeg : e ≠ V2.heap.size := by omega
          have hgeg : w.heap.size + 1 < V2.heap.size := by omega
          generalize V2.heap.size = g at *
          refine take_at 6 12 (.agg #[.int .i64 0, .int .i64 0, .int .i64 0, .int .i64 0, .slice (some ⟨g, 0, none⟩) n n, .slice A1 args.length c1, .slice none 0 0, .int .i64 0]) rfl rfl (by kernel_rfl) (by kernel_rfl) (by kernel_rfl) (fun _ _ _ h => h) (Or.inl ⟨by rfl, ?_⟩) hHeld ?_
          · intro w9 hSw
            (try dsimp only at hSw)
            go_simp
          (try simp only [Act.put, List.setIfInBounds_toArray, List.set_cons_zero, List.set_cons_succ])
          refine wpAnyH_ready (rs := [7]) (by kernel_rfl) (by simp) ?_
          refine AllReadyH.cons rfl (fun K hK => ?_) ?_
          · go_simp
            have hba := (Below.refl V3.heap.size V3).alloc (Nat.le_refl _) (.cells #[.int .i64 0, .int .i64 0, .int .i64 0, .int .i64 0, .slice none 0 0, .slice none 0 0, .slice none 0 0, .int .i64 0] 29)
            have hBn := HB.out.next (hba.mono HB.out.lt)
            refine hK.out _ _ (hBn.box.cell 1) (fun hHeld => ?_)
            clear hK K
            have HGn := Lib.hid ((Mods.of_below (S := No) hba).ownS HG.out fun _ _ h => h)
            clear HG
            have HG := HGn
            clear HGn
            have HAn := Lib.hid ((Mods.of_below (S := No) hba).ownS HA.out fun _ _ h => h)
            clear HA
            have HA := HAn
            clear HAn
            have HP := Lib.hid (Row.new V3 29 #[.int .i64 0, .int .i64 0, .int .i64 0, .int .i64 0, .slice none 0 0, .slice none 0 0, .slice none 0 0, .int .i64 0])
            have hltp : V3.heap.size < (V3.alloc (.cells #[.int .i64 0, .int .i64 0, .int .i64 0, .int .i64 0, .slice none 0 0, .slice none 0 0, .slice none 0 0, .int .i64 0] 29)).heap.size := by simp
            have hlte4 : e < (V3.alloc (.cells #[.int .i64 0, .int .i64 0, .int .i64 0, .int .i64 0, .slice none 0 0, .slice none 0 0, .slice none 0 0, .int .i64 0] 29)).heap.size := by omega
            have hltg4 : g < (V3.alloc (.cells #[.int .i64 0, .int .i64 0, .int .i64 0, .int .i64 0, .slice none 0 0, .slice none 0 0, .slice none 0 0, .int .i64 0] 29)).heap.size := by omega
            clear HB hba
            have HB := Lib.hid hBn
            clear hBn
            generalize V3.alloc (.cells #[.int .i64 0, .int .i64 0, .int .i64 0, .int .i64 0, .slice none 0 0, .slice none 0 0, .slice none 0 0, .int .i64 0] 29) = V4 at *
            have hlo4 := HB.out.lt
            have hneep : e ≠ V3.heap.size := by omega
            have hnegp : g ≠ V3.heap.size := by omega
            have hgep : w.heap.size + 1 < V3.heap.size := by omega
            generalize V3.heap.size = p at *
            refine wpAnyH_ready (rs := [8]) (by kernel_rfl) (by simp) ?_
            refine AllReadyH.cons rfl (fun K hK => ?_) ?_
            · have g0 := HP.out.cell 0; have g1 := HP.out.cell 1; have g2 := HP.out.cell 2; have g3 := HP.out.cell 3; have g4 := HP.out.cell 4; have g5 := HP.out.cell 5; have g6 := HP.out.cell 6; have g7 := HP.out.cell 7
              have r0 := HP.out.frozen 0; have r1 := HP.out.frozen 1; have r2 := HP.out.frozen 2; have r3 := HP.out.frozen 3; have r4 := HP.out.frozen 4; have r5 := HP.out.frozen 5; have r6 := HP.out.frozen 6; have r7 := HP.out.frozen 7
              simp only [List.getElem?_toArray, List.getElem?_cons_zero, List.getElem?_cons_succ] at g0 g1 g2 g3 g4 g5 g6 g7
              go_simp
              have HF := Lib.hid (RB.fin HB.out HG.out HA.out HP.out HN.out hgep)
              refine hK.out _ _ (HF.out.box.cell 1) (fun hHeld => ?_)
              clear hK K
              refine wpAnyH_done (by kernel_rfl) ?_ _
              clear hHeld
              go_wp2_with fail
              go_meet
              case rel => exact ⟨p, _, _, _, _, rfl, HF.out⟩
            exact AllReadyH.nil
          exact AllReadyH.nil
        refine AllReadyH.cons rfl (fun K hK => ?_) ?_
        · go_simp
          have hba := (Below.refl V2.heap.size V2).alloc (Nat.le_refl _) (.cells #[.int .i64 0, .int .i64 0, .int .i64 0, .int .i64 0, .slice none 0 0, .slice none 0 0, .slice none 0 0, .int .i64 0] 29)
          have hBn := HB.out.next (hba.mono HB.out.lt)
          refine hK.out _ _ (hBn.box.cell 1) (fun hHeld => ?_)
          clear hK K
          have HAn := Lib.hid ((Mods.of_below (S := No) hba).ownS HA.out fun _ _ h => h)
          clear HA
          have HA := HAn
          clear HAn
          have HP := Lib.hid (Row.new V2 29 #[.int .i64 0, .int .i64 0, .int .i64 0, .int .i64 0, .slice none 0 0, .slice none 0 0, .slice none 0 0, .int .i64 0])
          have hltp : V2.heap.size < (V2.alloc (.cells #[.int .i64 0, .int .i64 0, .int .i64 0, .int .i64 0, .slice none 0 0, .slice none 0 0, .slice none 0 0, .int .i64 0] 29)).heap.size := by simp
          have hlte3 : e < (V2.alloc (.cells #[.int .i64 0, .int .i64 0, .int .i64 0, .int .i64 0, .slice none 0 0, .slice none 0 0, .slice none 0 0, .int .i64 0] 29)).heap.size := by omega
          clear HB hba
          have HB := Lib.hid hBn
          clear hBn
          generalize V2.alloc (.cells #[.int .i64 0, .int .i64 0, .int .i64 0, .int .i64 0, .slice none 0 0, .slice none 0 0, .slice none 0 0, .int .i64 0] 29) = V3 at *
          have hlo3 := HB.out.lt
          have hneep : e ≠ V2.heap.size := by omega
          have hgep : w.heap.size + 1 < V2.heap.size := by omega
          generalize V2.heap.size = p at *
          refine wpAnyH_ready (rs := [2]) (by kernel_rfl) (by simp) ?_
          refine AllReadyH.cons rfl (fun K hK => ?_) ?_
          · go_simp
            have hba := (Below.refl V3.heap.size V3).alloc (Nat.le_refl _) (.cells (madeCells #[.int .i64 0] n) 2)
            have hBn := HB.out.next (hba.mono HB.out.lt)
            refine hK.out _ _ (hBn.box.cell 1) (fun hHeld => ?_)
            clear hK K
            have HN := Lib.hid (fun k (h1 : (Value.slice (some ⟨V3.heap.size, 0, none⟩) n n).ownBlock = some k) (h2 : (Value.slice A1 args.length c1).ownBlock = some k) => (by have := (ownS_lt HA.out k h2).2; simp [Value.ownBlock] at h1; omega : False))
            have HAn := Lib.hid ((Mods.of_below (S := No) hba).ownS HA.out fun _ _ h => h)
            clear HA
            have HA := HAn
            clear HAn
            have HPn := Lib.hid (HP.out.below hba HP.out.lt)
            clear HP
            have HP := HPn
            clear HPn
            have HG := Lib.hid (ownS_base (own_made V3 n hn) HB.out.lt)
            have hltg : V3.heap.size < (V3.alloc (.cells (madeCells #[.int .i64 0] n) 2)).heap.size := by simp
            have hlte4 : e < (V3.alloc (.cells (madeCells #[.int .i64 0] n) 2)).heap.size := by omega
            have hltp4 : p < (V3.alloc (.cells (madeCells #[.int .i64 0] n) 2)).heap.size := by omega
            clear HB hba
            have HB := Lib.hid hBn
            clear hBn
            generalize V3.alloc (.cells (madeCells #[.int .i64 0] n) 2) = V4 at *
            have hlo4 := HB.out.lt
            have hneeg : e ≠ V3.heap.size := by omega
            have hnepg : p ≠ V3.heap.size := by omega
            have hgeg : w.heap.size + 1 < V3.heap.size := by omega
            generalize V3.heap.size = g at *
            refine take_at 6 12 (.agg #[.int .i64 0, .int .i64 0, .int .i64 0, .int .i64 0, .slice (some ⟨g, 0, none⟩) n n, .slice A1 args.length c1, .slice none 0 0, .int .i64 0]) rfl rfl (by kernel_rfl) (by kernel_rfl) (by kernel_rfl) (fun _ _ _ h => h) (Or.inl ⟨by rfl, ?_⟩) hHeld ?_
            · intro w9 hSw
              (try dsimp only at hSw)
              go_simp
            (try simp only [Act.put, List.setIfInBounds_toArray, List.set_cons_zero, List.set_cons_succ])
            refine wpAnyH_ready (rs := [8]) (by kernel_rfl) (by simp) ?_
            refine AllReadyH.cons rfl (fun K hK => ?_) ?_
            · have g0 := HP.out.cell 0; have g1 := HP.out.cell 1; have g2 := HP.out.cell 2; have g3 := HP.out.cell 3; have g4 := HP.out.cell 4; have g5 := HP.out.cell 5; have g6 := HP.out.cell 6; have g7 := HP.out.cell 7
              have r0 := HP.out.frozen 0; have r1 := HP.out.frozen 1; have r2 := HP.out.frozen 2; have r3 := HP.out.frozen 3; have r4 := HP.out.frozen 4; have r5 := HP.out.frozen 5; have r6 := HP.out.frozen 6; have r7 := HP.out.frozen 7
              simp only [List.getElem?_toArray, List.getElem?_cons_zero, List.getElem?_cons_succ] at g0 g1 g2 g3 g4 g5 g6 g7
              go_simp
              have HF := Lib.hid (RB.fin HB.out HG.out HA.out HP.out HN.out hgep)
              refine hK.out _ _ (HF.out.box.cell 1) (fun hHeld => ?_)
              clear hK K
              refine wpAnyH_done (by kernel_rfl) ?_ _
              clear hHeld
              go_wp2_with fail
              go_meet
              case rel => exact ⟨p, _, _, _, _, rfl, HF.out⟩
            exact AllReadyH.nil
          exact AllReadyH.nil
        exact AllReadyH.nil
      refine AllReadyH.cons rfl (fun K hK => ?_) ?_
      · go_simp
        have hba := (Below.refl V1.heap.size V1).alloc (Nat.le_refl _) (.cells #[.int .i64 0, .int .i64 0, .int .i64 0, .int .i64 0, .slice none 0 0, .slice none 0 0, .slice none 0 0, .int .i64 0] 29)
        have hBn := HB.out.next (hba.mono HB.out.lt)
        refine hK.out _ _ (hBn.box.cell 1) (fun hHeld => ?_)
        clear hK K
        have HEn := Lib.hid ((Mods.of_below (S := No) hba).ownS HE.out fun _ _ h => h)
        clear HE
        have HE := HEn
        clear HEn
        have HP := Lib.hid (Row.new V1 29 #[.int .i64 0, .int .i64 0, .int .i64 0, .int .i64 0, .slice none 0 0, .slice none 0 0, .slice none 0 0, .int .i64 0])
        have hltp : V1.heap.size < (V1.alloc (.cells #[.int .i64 0, .int .i64 0, .int .i64 0, .int .i64 0, .slice none 0 0, .slice none 0 0, .slice none 0 0, .int .i64 0] 29)).heap.size := by simp
        have hlte2 : e < (V1.alloc (.cells #[.int .i64 0, .int .i64 0, .int .i64 0, .int .i64 0, .slice none 0 0, .slice none 0 0, .slice none 0 0, .int .i64 0] 29)).heap.size := by omega
        clear HB hba
        have HB := Lib.hid hBn
        clear hBn
        generalize V1.alloc (.cells #[.int .i64 0, .int .i64 0, .int .i64 0, .int .i64 0, .slice none 0 0, .slice none 0 0, .slice none 0 0, .int .i64 0] 29) = V2 at *
        have hlo2 := HB.out.lt
        have hneep : e ≠ V1.heap.size := by omega
        have hgep : w.heap.size + 1 < V1.heap.size := by omega
        generalize V1.heap.size = p at *
        refine wpAnyH_ready (rs := [2, 5]) (by kernel_rfl) (by simp) ?_
        refine AllReadyH.cons rfl (fun K hK => ?_) ?_
        · go_simp
          have hba := (Below.refl V2.heap.size V2).alloc (Nat.le_refl _) (.cells (madeCells #[.int .i64 0] n) 2)
          have hBn := HB.out.next (hba.mono HB.out.lt)
          refine hK.out _ _ (hBn.box.cell 1) (fun hHeld => ?_)
          clear hK K
          have HEn := Lib.hid ((Mods.of_below (S := No) hba).ownS HE.out fun _ _ h => h)
          clear HE
          have HE := HEn
          clear HEn
          have HPn := Lib.hid (HP.out.below hba HP.out.lt)
          clear HP
          have HP := HPn
          clear HPn
          have HG := Lib.hid (ownS_base (own_made V2 n hn) HB.out.lt)
          have hltg : V2.heap.size < (V2.alloc (.cells (madeCells #[.int .i64 0] n) 2)).heap.size := by simp
          have hlte3 : e < (V2.alloc (.cells (madeCells #[.int .i64 0] n) 2)).heap.size := by omega
          have hltp3 : p < (V2.alloc (.cells (madeCells #[.int .i64 0] n) 2)).heap.size := by omega
          clear HB hba
          have HB := Lib.hid hBn
          clear hBn
          generalize V2.alloc (.cells (madeCells #[.int .i64 0] n) 2) = V3 at *
          have hlo3 := HB.out.lt
          have hneeg : e ≠ V2.heap.size := by omega
          have hnepg : p ≠ V2.heap.size := by omega
          have hgeg : w.heap.size + 1 < V2.heap.size := by omega
          generalize V2.heap.size = g at *
          refine wpAnyH_ready (rs := [5]) (by kernel_rfl) (by simp) ?_
          refine AllReadyH.cons rfl (fun K hK => ?_) ?_
          · refine step_append_any _ rfl (.tmp 9) (.tmp 10) 25 rfl (w.heap.size + 1 + 1) 2 i0 _ 1 8 Try.underlying25 hi hz0 hz1 hz2 rfl (by decide) (.slice (some ⟨e, 0, none⟩) 0 0) 0 [] rfl HE.out (w.heap.size + 1 + 1) AA args.length ac (ints args) rfl HB.out.sees (by rw [ints_length]; omega) (ints_one _) (by unfold maxLen; omega) (by omega) HB.out.lt ?_
            intro v1 V4 ho1 hg1 ha1
            rw [Nat.zero_add, List.nil_append] at ho1
            obtain ⟨A1, c1, rfl, _, _⟩ := ownS_slice ho1
            have hmd : Mods (Is e) V3 V4 := ⟨hg1.os, hg1.tape, hg1.output, hg1.size, fun k hk hn => hg1.block k hk fun h9 => hn (by simp [Value.ownBlock] at h9; exact h9)⟩
            have heo := (ownS_lt HE.out e rfl).1
            have hbb : Below (w.heap.size + 1 + 1) V3 V4 := hmd.below HB.out.lt fun k hk => by unfold Is at hk; omega
            have hBn := HB.out.next hbb
            have HGn := Lib.hid (hmd.ownS HG.out fun k hk hs => by simp [Value.ownBlock] at hk; unfold Is at hs; omega)
            have HN := Lib.hid (fun k (h1 : (Value.slice (some ⟨g, 0, none⟩) n n).ownBlock = some k) (h2 : (Value.slice A1 args.length c1).ownBlock = some k) => (by
              simp only [Value.ownBlock, Option.some.injEq] at h1
              rcases ha1 with h3 | h3
              · rw [h3] at h2; simp only [Value.ownBlock, Option.some.injEq] at h2; omega
              · rw [h3] at h2; simp only [Option.some.injEq] at h2; omega : False))
            clear HG
            have HG := HGn
            clear HGn
            have HPn := Lib.hid (HP.out.mods hmd (by unfold Is; omega))
            clear HP
            have HP := HPn
            clear HPn
            have HA := Lib.hid ho1
            have hlte4 : e < V4.heap.size := by have := hg1.size; omega
            have hltp4 : p < V4.heap.size := by have := hg1.size; omega
            have hltg4 : g < V4.heap.size := by have := hg1.size; omega
            clear HE HB ho1 hg1 ha1 hmd hbb heo
            have HB := Lib.hid hBn
            have hlo4 := hBn.lt
            clear hBn
            refine hK.out _ _ (HB.out.box.cell 1) (fun hHeld => ?_)
            clear hK K
            refine take_at 6 12 (.agg #[.int .i64 0, .int .i64 0, .int .i64 0, .int .i64 0, .slice (some ⟨g, 0, none⟩) n n, .slice A1 args.length c1, .slice none 0 0, .int .i64 0]) rfl rfl (by kernel_rfl) (by kernel_rfl) (by kernel_rfl) (fun _ _ _ h => h) (Or.inl ⟨by rfl, ?_⟩) hHeld ?_
            · intro w9 hSw
              (try dsimp only at hSw)
              go_simp
            (try simp only [Act.put, List.setIfInBounds_toArray, List.set_cons_zero, List.set_cons_succ])
            refine wpAnyH_ready (rs := [8]) (by kernel_rfl) (by simp) ?_
            refine AllReadyH.cons rfl (fun K hK => ?_) ?_
            · have g0 := HP.out.cell 0; have g1 := HP.out.cell 1; have g2 := HP.out.cell 2; have g3 := HP.out.cell 3; have g4 := HP.out.cell 4; have g5 := HP.out.cell 5; have g6 := HP.out.cell 6; have g7 := HP.out.cell 7
              have r0 := HP.out.frozen 0; have r1 := HP.out.frozen 1; have r2 := HP.out.frozen 2; have r3 := HP.out.frozen 3; have r4 := HP.out.frozen 4; have r5 := HP.out.frozen 5; have r6 := HP.out.frozen 6; have r7 := HP.out.frozen 7
              simp only [List.getElem?_toArray, List.getElem?_cons_zero, List.getElem?_cons_succ] at g0 g1 g2 g3 g4 g5 g6 g7
              go_simp
              have HF := Lib.hid (RB.fin HB.out HG.out HA.out HP.out HN.out hgep)
              refine hK.out _ _ (HF.out.box.cell 1) (fun hHeld => ?_)
              clear hK K
              refine wpAnyH_done (by kernel_rfl) ?_ _
              clear hHeld
              go_wp2_with fail
              go_meet
              case rel => exact ⟨p, _, _, _, _, rfl, HF.out⟩
            exact AllReadyH.nil
          exact AllReadyH.nil
        refine AllReadyH.cons rfl (fun K hK => ?_) ?_
        · refine step_append_any _ rfl (.tmp 9) (.tmp 10) 25 rfl (w.heap.size + 1 + 1) 2 i0 _ 1 8 Try.underlying25 hi hz0 hz1 hz2 rfl (by decide) (.slice (some ⟨e, 0, none⟩) 0 0) 0 [] rfl HE.out (w.heap.size + 1 + 1) AA args.length ac (ints args) rfl HB.out.sees (by rw [ints_length]; omega) (ints_one _) (by unfold maxLen; omega) (by omega) HB.out.lt ?_
          intro v1 V3 ho1 hg1 ha1
          rw [Nat.zero_add, List.nil_append] at ho1
          obtain ⟨A1, c1, rfl, _, _⟩ := ownS_slice ho1
          have hmd : Mods (Is e) V2 V3 := ⟨hg1.os, hg1.tape, hg1.output, hg1.size, fun k hk hn => hg1.block k hk fun h9 => hn (by simp [Value.ownBlock] at h9; exact h9)⟩
          have heo := (ownS_lt HE.out e rfl).1
          have hbb : Below (w.heap.size + 1 + 1) V2 V3 := hmd.below HB.out.lt fun k hk => by unfold Is at hk; omega
          have hBn := HB.out.next hbb
          have HPn := Lib.hid (HP.out.mods hmd (by unfold Is; omega))
          clear HP
          have HP := HPn
          clear HPn
          have HA := Lib.hid ho1
          have hlte3 : e < V3.heap.size := by have := hg1.size; omega
          have hltp3 : p < V3.heap.size := by have := hg1.size; omega
          clear HE HB ho1 hg1 ha1 hmd hbb heo
          have HB := Lib.hid hBn
          have hlo3 := hBn.lt
          clear hBn
          refine hK.out _ _ (HB.out.box.cell 1) (fun hHeld => ?_)
          clear hK K
          refine wpAnyH_ready (rs := [2]) (by kernel_rfl) (by simp) ?_
          refine AllReadyH.cons rfl (fun K hK => ?_) ?_
          · go_simp
            have hba := (Below.refl V3.heap.size V3).alloc (Nat.le_refl _) (.cells (madeCells #[.int .i64 0] n) 2)
            have hBn := HB.out.next (hba.mono HB.out.lt)
            refine hK.out _ _ (hBn.box.cell 1) (fun hHeld => ?_)
            clear hK K
            have HN := Lib.hid (fun k (h1 : (Value.slice (some ⟨V3.heap.size, 0, none⟩) n n).ownBlock = some k) (h2 : (Value.slice A1 args.length c1).ownBlock = some k) => (by have := (ownS_lt HA.out k h2).2; simp [Value.ownBlock] at h1; omega : False))
            have HAn := Lib.hid ((Mods.of_below (S := No) hba).ownS HA.out fun _ _ h => h)
            clear HA
            have HA := HAn
            clear HAn
            have HPn := Lib.hid (HP.out.below hba HP.out.lt)
            clear HP
            have HP := HPn
            clear HPn
            have HG := Lib.hid (ownS_base (own_made V3 n hn) HB.out.lt)
            have hltg : V3.heap.size < (V3.alloc (.cells (madeCells #[.int .i64 0] n) 2)).heap.size := by simp
            have hlte4 : e < (V3.alloc (.cells (madeCells #[.int .i64 0] n) 2)).heap.size := by omega
            have hltp4 : p < (V3.alloc (.cells (madeCells #[.int .i64 0] n) 2)).heap.size := by omega
            clear HB hba
            have HB := Lib.hid hBn
            clear hBn
            generalize V3.alloc (.cells (madeCells #[.int .i64 0] n) 2) = V4 at *
            have hlo4 := HB.out.lt
            have hneeg : e ≠ V3.heap.size := by omega
            have hnepg : p ≠ V3.heap.size := by omega
            have hgeg : w.heap.size + 1 < V3.heap.size := by omega
            generalize V3.heap.size = g at *
            refine take_at 6 12 (.agg #[.int .i64 0, .int .i64 0, .int .i64 0, .int .i64 0, .slice (some ⟨g, 0, none⟩) n n, .slice A1 args.length c1, .slice none 0 0, .int .i64 0]) rfl rfl (by kernel_rfl) (by kernel_rfl) (by kernel_rfl) (fun _ _ _ h => h) (Or.inl ⟨by rfl, ?_⟩) hHeld ?_
            · intro w9 hSw
              (try dsimp only at hSw)
              go_simp
            (try simp only [Act.put, List.setIfInBounds_toArray, List.set_cons_zero, List.set_cons_succ])
            refine wpAnyH_ready (rs := [8]) (by kernel_rfl) (by simp) ?_
            refine AllReadyH.cons rfl (fun K hK => ?_) ?_
            · have g0 := HP.out.cell 0; have g1 := HP.out.cell 1; have g2 := HP.out.cell 2; have g3 := HP.out.cell 3; have g4 := HP.out.cell 4; have g5 := HP.out.cell 5; have g6 := HP.out.cell 6; have g7 := HP.out.cell 7
              have r0 := HP.out.frozen 0; have r1 := HP.out.frozen 1; have r2 := HP.out.frozen 2; have r3 := HP.out.frozen 3; have r4 := HP.out.frozen 4; have r5 := HP.out.frozen 5; have r6 := HP.out.frozen 6; have r7 := HP.out.frozen 7
              simp only [List.getElem?_toArray, List.getElem?_cons_zero, List.getElem?_cons_succ] at g0 g1 g2 g3 g4 g5 g6 g7
              go_simp
              have HF := Lib.hid (RB.fin HB.out HG.out HA.out HP.out HN.out hgep)
              refine hK.out _ _ (HF.out.box.cell 1) (fun hHeld => ?_)
              clear hK K
              refine wpAnyH_done (by kernel_rfl) ?_ _
              clear hHeld
              go_wp2_with fail
              go_meet
              case rel => exact ⟨p, _, _, _, _, rfl, HF.out⟩
            exact AllReadyH.nil
          exact AllReadyH.nil
        exact AllReadyH.nil
      exact AllReadyH.nil
    refine AllReadyH.cons rfl (fun K hK => ?_) ?_
    · go_simp
      have hba := (Below.refl V0.heap.size V0).alloc (Nat.le_refl _) (.cells #[.int .i64 0, .int .i64 0, .int .i64 0, .int .i64 0, .slice none 0 0, .slice none 0 0, .slice none 0 0, .int .i64 0] 29)
      have hBn := HB.out.next (hba.mono HB.out.lt)
      refine hK.out _ _ (hBn.box.cell 1) (fun hHeld => ?_)
      clear hK K
      have HP := Lib.hid (Row.new V0 29 #[.int .i64 0, .int .i64 0, .int .i64 0, .int .i64 0, .slice none 0 0, .slice none 0 0, .slice none 0 0, .int .i64 0])
      have hltp : V0.heap.size < (V0.alloc (.cells #[.int .i64 0, .int .i64 0, .int .i64 0, .int .i64 0, .slice none 0 0, .slice none 0 0, .slice none 0 0, .int .i64 0] 29)).heap.size := by simp
      clear HB hba
      have HB := Lib.hid hBn
      clear hBn
      generalize V0.alloc (.cells #[.int .i64 0, .int .i64 0, .int .i64 0, .int .i64 0, .slice none 0 0, .slice none 0 0, .slice none 0 0, .int .i64 0] 29) = V1 at *
      have hlo1 := HB.out.lt
      have hgep : w.heap.size + 1 < V0.heap.size := by omega
      generalize V0.heap.size = p at *
      refine wpAnyH_ready (rs := [2, 3]) (by kernel_rfl) (by simp) ?_
      refine AllReadyH.cons rfl (fun K hK => ?_) ?_
      · go_simp
        have hba := (Below.refl V1.heap.size V1).alloc (Nat.le_refl _) (.cells (madeCells #[.int .i64 0] n) 2)
        have hBn := HB.out.next (hba.mono HB.out.lt)
        refine hK.out _ _ (hBn.box.cell 1) (fun hHeld => ?_)
        clear hK K
        have HPn := Lib.hid (HP.out.below hba HP.out.lt)
        clear HP
        have HP := HPn
        clear HPn
        have HG := Lib.hid (ownS_base (own_made V1 n hn) HB.out.lt)
        have hltg : V1.heap.size < (V1.alloc (.cells (madeCells #[.int .i64 0] n) 2)).heap.size := by simp
        have hltp2 : p < (V1.alloc (.cells (madeCells #[.int .i64 0] n) 2)).heap.size := by omega
        clear HB hba
        have HB := Lib.hid hBn
        clear hBn
        generalize V1.alloc (.cells (madeCells #[.int .i64 0] n) 2) = V2 at *
        have hlo2 := HB.out.lt
        have hnepg : p ≠ V1.heap.size := by omega
        have hgeg : w.heap.size + 1 < V1.heap.size := by omega
        generalize V1.heap.size = g at *
        refine wpAnyH_ready (rs := [3]) (by kernel_rfl) (by simp) ?_
        refine AllReadyH.cons rfl (fun K hK => ?_) ?_
        · go_simp
          have hba := (Below.refl V2.heap.size V2).alloc (Nat.le_refl _) (.cells #[] 2)
          have hBn := HB.out.next (hba.mono HB.out.lt)
          refine hK.out _ _ (hBn.box.cell 1) (fun hHeld => ?_)
          clear hK K
          have HGn := Lib.hid ((Mods.of_below (S := No) hba).ownS HG.out fun _ _ h => h)
          clear HG
          have HG := HGn
          clear HGn
          have HPn := Lib.hid (HP.out.below hba HP.out.lt)
          clear HP
          have HP := HPn
          clear HPn
          have HE := Lib.hid (ownS_base (own_empty V2 2 1) HB.out.lt)
          have hlte : V2.heap.size < (V2.alloc (.cells #[] 2)).heap.size := by simp
          have hltp3 : p < (V2.alloc (.cells #[] 2)).heap.size := by omega
          have hltg3 : g < (V2.alloc (.cells #[] 2)).heap.size := by omega
          clear HB hba
          have HB := Lib.hid hBn
          clear hBn
          generalize V2.alloc (.cells #[] 2) = V3 at *
          have hlo3 := HB.out.lt
          have hnepe : p ≠ V2.heap.size := by omega
          have hnege : g ≠ V2.heap.size := by omega
          have hgee : w.heap.size + 1 < V2.heap.size := by omega
          generalize V2.heap.size = e at *
          refine wpAnyH_ready (rs := [5]) (by kernel_rfl) (by simp) ?_
          refine AllReadyH.cons rfl (fun K hK => ?_) ?_
          · refine step_append_any _ rfl (.tmp 9) (.tmp 10) 25 rfl (w.heap.size + 1 + 1) 2 i0 _ 1 8 Try.underlying25 hi hz0 hz1 hz2 rfl (by decide) (.slice (some ⟨e, 0, none⟩) 0 0) 0 [] rfl HE.out (w.heap.size + 1 + 1) AA args.length ac (ints args) rfl HB.out.sees (by rw [ints_length]; omega) (ints_one _) (by unfold maxLen; omega) (by omega) HB.out.lt ?_
            intro v1 V4 ho1 hg1 ha1
            rw [Nat.zero_add, List.nil_append] at ho1
            obtain ⟨A1, c1, rfl, _, _⟩ := ownS_slice ho1
            have hmd : Mods (Is e) V3 V4 := ⟨hg1.os, hg1.tape, hg1.output, hg1.size, fun k hk hn => hg1.block k hk fun h9 => hn (by simp [Value.ownBlock] at h9; exact h9)⟩
            have heo := (ownS_lt HE.out e rfl).1
            have hbb : Below (w.heap.size + 1 + 1) V3 V4 := hmd.below HB.out.lt fun k hk => by unfold Is at hk; omega
            have hBn := HB.out.next hbb
            have HGn := Lib.hid (hmd.ownS HG.out fun k hk hs => by simp [Value.ownBlock] at hk; unfold Is at hs; omega)
            have HN := Lib.hid (fun k (h1 : (Value.slice (some ⟨g, 0, none⟩) n n).ownBlock = some k) (h2 : (Value.slice A1 args.length c1).ownBlock = some k) => (by
              simp only [Value.ownBlock, Option.some.injEq] at h1
              rcases ha1 with h3 | h3
              · rw [h3] at h2; simp only [Value.ownBlock, Option.some.injEq] at h2; omega
              · rw [h3] at h2; simp only [Option.some.injEq] at h2; omega : False))
            clear HG
            have HG := HGn
            clear HGn
            have HPn := Lib.hid (HP.out.mods hmd (by unfold Is; omega))
            clear HP
            have HP := HPn
            clear HPn
            have HA := Lib.hid ho1
            have hltp4 : p < V4.heap.size := by have := hg1.size; omega
            have hltg4 : g < V4.heap.size := by have := hg1.size; omega
            have hlte4 : e < V4.heap.size := by have := hg1.size; omega
            clear HE HB ho1 hg1 ha1 hmd hbb heo
            have HB := Lib.hid hBn
            have hlo4 := hBn.lt
            clear hBn
            refine hK.out _ _ (HB.out.box.cell 1) (fun hHeld => ?_)
            clear hK K
            refine take_at 6 12 (.agg #[.int .i64 0, .int .i64 0, .int .i64 0, .int .i64 0, .slice (some ⟨g, 0, none⟩) n n, .slice A1 args.length c1, .slice none 0 0, .int .i64 0]) rfl rfl (by kernel_rfl) (by kernel_rfl) (by kernel_rfl) (fun _ _ _ h => h) (Or.inl ⟨by rfl, ?_⟩) hHeld ?_
            · intro w9 hSw
              (try dsimp only at hSw)
              go_simp
            (try simp only [Act.put, List.setIfInBounds_toArray, List.set_cons_zero, List.set_cons_succ])
            refine wpAnyH_ready (rs := [8]) (by kernel_rfl) (by simp) ?_
            refine AllReadyH.cons rfl (fun K hK => ?_) ?_
            · have g0 := HP.out.cell 0; have g1 := HP.out.cell 1; have g2 := HP.out.cell 2; have g3 := HP.out.cell 3; have g4 := HP.out.cell 4; have g5 := HP.out.cell 5; have g6 := HP.out.cell 6; have g7 := HP.out.cell 7
              have r0 := HP.out.frozen 0; have r1 := HP.out.frozen 1; have r2 := HP.out.frozen 2; have r3 := HP.out.frozen 3; have r4 := HP.out.frozen 4; have r5 := HP.out.frozen 5; have r6 := HP.out.frozen 6; have r7 := HP.out.frozen 7
              simp only [List.getElem?_toArray, List.getElem?_cons_zero, List.getElem?_cons_succ] at g0 g1 g2 g3 g4 g5 g6 g7
              go_simp
              have HF := Lib.hid (RB.fin HB.out HG.out HA.out HP.out HN.out hgep)
              refine hK.out _ _ (HF.out.box.cell 1) (fun hHeld => ?_)
              clear hK K
              refine wpAnyH_done (by kernel_rfl) ?_ _
              clear hHeld
              go_wp2_with fail
              go_meet
              case rel => exact ⟨p, _, _, _, _, rfl, HF.out⟩
            exact AllReadyH.nil
          exact AllReadyH.nil
        exact AllReadyH.nil
      refine AllReadyH.cons rfl (fun K hK => ?_) ?_
      · go_simp
        have hba := (Below.refl V1.heap.size V1).alloc (Nat.le_refl _) (.cells #[] 2)
        have hBn := HB.out.next (hba.mono HB.out.lt)
        refine hK.out _ _ (hBn.box.cell 1) (fun hHeld => ?_)
        clear hK K
        have HPn := Lib.hid (HP.out.below hba HP.out.lt)
        clear HP
        have HP := HPn
        clear HPn
        have HE := Lib.hid (ownS_base (own_empty V1 2 1) HB.out.lt)
        have hlte : V1.heap.size < (V1.alloc (.cells #[] 2)).heap.size := by simp
        have hltp2 : p < (V1.alloc (.cells #[] 2)).heap.size := by omega
        clear HB hba
        have HB := Lib.hid hBn
        clear hBn
        generalize V1.alloc (.cells #[] 2) = V2 at *
        have hlo2 := HB.out.lt
        have hnepe : p ≠ V1.heap.size := by omega
        have hgee : w.heap.size + 1 < V1.heap.size := by omega
        generalize V1.heap.size = e at *
        refine wpAnyH_ready (rs := [2, 5]) (by kernel_rfl) (by simp) ?_
        refine AllReadyH.cons rfl (fun K hK => ?_) ?_
        · go_simp
          have hba := (Below.refl V2.heap.size V2).alloc (Nat.le_refl _) (.cells (madeCells #[.int .i64 0] n) 2)
          have hBn := HB.out.next (hba.mono HB.out.lt)
          refine hK.out _ _ (hBn.box.cell 1) (fun hHeld => ?_)
          clear hK K
          have HEn := Lib.hid ((Mods.of_below (S := No) hba).ownS HE.out fun _ _ h => h)
          clear HE
          have HE := HEn
          clear HEn
          have HPn := Lib.hid (HP.out.below hba HP.out.lt)
          clear HP
          have HP := HPn
          clear HPn
          have HG := Lib.hid (ownS_base (own_made V2 n hn) HB.out.lt)
          have hltg : V2.heap.size < (V2.alloc (.cells (madeCells #[.int .i64 0] n) 2)).heap.size := by simp
          have hltp3 : p < (V2.alloc (.cells (madeCells #[.int .i64 0] n) 2)).heap.size := by omega
          have hlte3 : e < (V2.alloc (.cells (madeCells #[.int .i64 0] n) 2)).heap.size := by omega
          clear HB hba
          have HB := Lib.hid hBn
          clear hBn
          generalize V2.alloc (.cells (madeCells #[.int .i64 0] n) 2) = V3 at *
          have hlo3 := HB.out.lt
          have hnepg : p ≠ V2.heap.size := by omega
          have hneeg : e ≠ V2.heap.size := by omega
          have hgeg : w.heap.size + 1 < V2.heap.size := by omega
          generalize V2.heap.size = g at *
          refine wpAnyH_ready (rs := [5]) (by kernel_rfl) (by simp) ?_
          refine AllReadyH.cons rfl (fun K hK => ?_) ?_
          · refine step_append_any _ rfl (.tmp 9) (.tmp 10) 25 rfl (w.heap.size + 1 + 1) 2 i0 _ 1 8 Try.underlying25 hi hz0 hz1 hz2 rfl (by decide) (.slice (some ⟨e, 0, none⟩) 0 0) 0 [] rfl HE.out (w.heap.size + 1 + 1) AA args.length ac (ints args) rfl HB.out.sees (by rw [ints_length]; omega) (ints_one _) (by unfold maxLen; omega) (by omega) HB.out.lt ?_
            intro v1 V4 ho1 hg1 ha1
            rw [Nat.zero_add, List.nil_append] at ho1
            obtain ⟨A1, c1, rfl, _, _⟩ := ownS_slice ho1
            have hmd : Mods (Is e) V3 V4 := ⟨hg1.os, hg1.tape, hg1.output, hg1.size, fun k hk hn => hg1.block k hk fun h9 => hn (by simp [Value.ownBlock] at h9; exact h9)⟩
            have heo := (ownS_lt HE.out e rfl).1
            have hbb : Below (w.heap.size + 1 + 1) V3 V4 := hmd.below HB.out.lt fun k hk => by unfold Is at hk; omega
            have hBn := HB.out.next hbb
            have HGn := Lib.hid (hmd.ownS HG.out fun k hk hs => by simp [Value.ownBlock] at hk; unfold Is at hs; omega)
            have HN := Lib.hid (fun k (h1 : (Value.slice (some ⟨g, 0, none⟩) n n).ownBlock = some k) (h2 : (Value.slice A1 args.length c1).ownBlock = some k) => (by
              simp only [Value.ownBlock, Option.some.injEq] at h1
              rcases ha1 with h3 | h3
              · rw [h3] at h2; simp only [Value.ownBlock, Option.some.injEq] at h2; omega
              · rw [h3] at h2; simp only [Option.some.injEq] at h2; omega : False))
            clear HG
            have HG := HGn
            clear HGn
            have HPn := Lib.hid (HP.out.mods hmd (by unfold Is; omega))
            clear HP
            have HP := HPn
            clear HPn
            have HA := Lib.hid ho1
            have hltp4 : p < V4.heap.size := by have := hg1.size; omega
            have hlte4 : e < V4.heap.size := by have := hg1.size; omega
            have hltg4 : g < V4.heap.size := by have := hg1.size; omega
            clear HE HB ho1 hg1 ha1 hmd hbb heo
            have HB := Lib.hid hBn
            have hlo4 := hBn.lt
            clear hBn
            refine hK.out _ _ (HB.out.box.cell 1) (fun hHeld => ?_)
            clear hK K
            refine take_at 6 12 (.agg #[.int .i64 0, .int .i64 0, .int .i64 0, .int .i64 0, .slice (some ⟨g, 0, none⟩) n n, .slice A1 args.length c1, .slice none 0 0, .int .i64 0]) rfl rfl (by kernel_rfl) (by kernel_rfl) (by kernel_rfl) (fun _ _ _ h => h) (Or.inl ⟨by rfl, ?_⟩) hHeld ?_
            · intro w9 hSw
              (try dsimp only at hSw)
              go_simp
            (try simp only [Act.put, List.setIfInBounds_toArray, List.set_cons_zero, List.set_cons_succ])
            refine wpAnyH_ready (rs := [8]) (by kernel_rfl) (by simp) ?_
            refine AllReadyH.cons rfl (fun K hK => ?_) ?_
            · have g0 := HP.out.cell 0; have g1 := HP.out.cell 1; have g2 := HP.out.cell 2; have g3 := HP.out.cell 3; have g4 := HP.out.cell 4; have g5 := HP.out.cell 5; have g6 := HP.out.cell 6; have g7 := HP.out.cell 7
              have r0 := HP.out.frozen 0; have r1 := HP.out.frozen 1; have r2 := HP.out.frozen 2; have r3 := HP.out.frozen 3; have r4 := HP.out.frozen 4; have r5 := HP.out.frozen 5; have r6 := HP.out.frozen 6; have r7 := HP.out.frozen 7
              simp only [List.getElem?_toArray, List.getElem?_cons_zero, List.getElem?_cons_succ] at g0 g1 g2 g3 g4 g5 g6 g7
              go_simp
              have HF := Lib.hid (RB.fin HB.out HG.out HA.out HP.out HN.out hgep)
              refine hK.out _ _ (HF.out.box.cell 1) (fun hHeld => ?_)
              clear hK K
              refine wpAnyH_done (by kernel_rfl) ?_ _
              clear hHeld
              go_wp2_with fail
              go_meet
              case rel => exact ⟨p, _, _, _, _, rfl, HF.out⟩
            exact AllReadyH.nil
          exact AllReadyH.nil
        refine AllReadyH.cons rfl (fun K hK => ?_) ?_
        · refine step_append_any _ rfl (.tmp 9) (.tmp 10) 25 rfl (w.heap.size + 1 + 1) 2 i0 _ 1 8 Try.underlying25 hi hz0 hz1 hz2 rfl (by decide) (.slice (some ⟨e, 0, none⟩) 0 0) 0 [] rfl HE.out (w.heap.size + 1 + 1) AA args.length ac (ints args) rfl HB.out.sees (by rw [ints_length]; omega) (ints_one _) (by unfold maxLen; omega) (by omega) HB.out.lt ?_
          intro v1 V3 ho1 hg1 ha1
          rw [Nat.zero_add, List.nil_append] at ho1
          obtain ⟨A1, c1, rfl, _, _⟩ := ownS_slice ho1
          have hmd : Mods (Is e) V2 V3 := ⟨hg1.os, hg1.tape, hg1.output, hg1.size, fun k hk hn => hg1.block k hk fun h9 => hn (by simp [Value.ownBlock] at h9; exact h9)⟩
          have heo := (ownS_lt HE.out e rfl).1
          have hbb : Below (w.heap.size + 1 + 1) V2 V3 := hmd.below HB.out.lt fun k hk => by unfold Is at hk; omega
          have hBn := HB.out.next hbb
          have HPn := Lib.hid (HP.out.mods hmd (by unfold Is; omega))
          clear HP
          have HP := HPn
          clear HPn
          have HA := Lib.hid ho1
          have hltp3 : p < V3.heap.size := by have := hg1.size; omega
          have hlte3 : e < V3.heap.size := by have := hg1.size; omega
          clear HE HB ho1 hg1 ha1 hmd hbb heo
          have HB := Lib.hid hBn
          have hlo3 := hBn.lt
          clear hBn
          refine hK.out _ _ (HB.out.box.cell 1) (fun hHeld => ?_)
          clear hK K
          refine wpAnyH_ready (rs := [2]) (by kernel_rfl) (by simp) ?_
          refine AllReadyH.cons rfl (fun K hK => ?_) ?_
          · go_simp
            have hba := (Below.refl V3.heap.size V3).alloc (Nat.le_refl _) (.cells (madeCells #[.int .i64 0] n) 2)
            have hBn := HB.out.next (hba.mono HB.out.lt)
            refine hK.out _ _ (hBn.box.cell 1) (fun hHeld => ?_)
            clear hK K
            have HN := Lib.hid (fun k (h1 : (Value.slice (some ⟨V3.heap.size, 0, none⟩) n n).ownBlock = some k) (h2 : (Value.slice A1 args.length c1).ownBlock = some k) => (by have := (ownS_lt HA.out k h2).2; simp [Value.ownBlock] at h1; omega : False))
            have HAn := Lib.hid ((Mods.of_below (S := No) hba).ownS HA.out fun _ _ h => h)
            clear HA
            have HA := HAn
            clear HAn
            have HPn := Lib.hid (HP.out.below hba HP.out.lt)
            clear HP
            have HP := HPn
            clear HPn
            have HG := Lib.hid (ownS_base (own_made V3 n hn) HB.out.lt)
            have hltg : V3.heap.size < (V3.alloc (.cells (madeCells #[.int .i64 0] n) 2)).heap.size := by simp
            have hltp4 : p < (V3.alloc (.cells (madeCells #[.int .i64 0] n) 2)).heap.size := by omega
            have hlte4 : e < (V3.alloc (.cells (madeCells #[.int .i64 0] n) 2)).heap.size := by omega
            clear HB hba
            have HB := Lib.hid hBn
            clear hBn
            generalize V3.alloc (.cells (madeCells #[.int .i64 0] n) 2) = V4 at *
            have hlo4 := HB.out.lt
            have hnepg : p ≠ V3.heap.size := by omega
            have hneeg : e ≠ V3.heap.size := by omega
            have hgeg : w.heap.size + 1 < V3.heap.size := by omega
            generalize V3.heap.size = g at *
            refine take_at 6 12 (.agg #[.int .i64 0, .int .i64 0, .int .i64 0, .int .i64 0, .slice (some ⟨g, 0, none⟩) n n, .slice A1 args.length c1, .slice none 0 0, .int .i64 0]) rfl rfl (by kernel_rfl) (by kernel_rfl) (by kernel_rfl) (fun _ _ _ h => h) (Or.inl ⟨by rfl, ?_⟩) hHeld ?_
            · intro w9 hSw
              (try dsimp only at hSw)
              go_simp
            (try simp only [Act.put, List.setIfInBounds_toArray, List.set_cons_zero, List.set_cons_succ])
            refine wpAnyH_ready (rs := [8]) (by kernel_rfl) (by simp) ?_
            refine AllReadyH.cons rfl (fun K hK => ?_) ?_
            · have g0 := HP.out.cell 0; have g1 := HP.out.cell 1; have g2 := HP.out.cell 2; have g3 := HP.out.cell 3; have g4 := HP.out.cell 4; have g5 := HP.out.cell 5; have g6 := HP.out.cell 6; have g7 := HP.out.cell 7
              have r0 := HP.out.frozen 0; have r1 := HP.out.frozen 1; have r2 := HP.out.frozen 2; have r3 := HP.out.frozen 3; have r4 := HP.out.frozen 4; have r5 := HP.out.frozen 5; have r6 := HP.out.frozen 6; have r7 := HP.out.frozen 7
              simp only [List.getElem?_toArray, List.getElem?_cons_zero, List.getElem?_cons_succ] at g0 g1 g2 g3 g4 g5 g6 g7
              go_simp
              have HF := Lib.hid (RB.fin HB.out HG.out HA.out HP.out HN.out hgep)
              refine hK.out _ _ (HF.out.box.cell 1) (fun hHeld => ?_)
              clear hK K
              refine wpAnyH_done (by kernel_rfl) ?_ _
              clear hHeld
              go_wp2_with fail
              go_meet
              case rel => exact ⟨p, _, _, _, _, rfl, HF.out⟩
            exact AllReadyH.nil
          exact AllReadyH.nil
        exact AllReadyH.nil
      exact AllReadyH.nil
    exact AllReadyH.nil
  case rest =>
    obtain ⟨p, GA, gc, A1, c1, rfl, HS⟩ := hcut
    have hz0x : w.heap.size < wc.heap.size := HS.out.box.lt
    clear d1 HB hlo
    go_wp2
    go_loopg [] (m - args.length) (fun g wr => ∃ (l : List Int) (A : Option Addr) (c : Nat), l.length + g = m ∧ Hid (l = args ++ List.replicate (l.length - args.length) 0) ∧ Hid (RxS w args.length n m FA bl bc p n GA gc l (.slice A l.length c) wr))
    case atStart => exact ⟨args, A1, c1, by omega, by simp [Hid], HS.out⟩
    case round =>
      obtain ⟨l, A, c, hg, HL, HC⟩ := hrel
      clear HS
      have d2 := HC.out.box.cell 2
      have f5 := HC.out.out.cell 5
      simp only [List.getElem?_toArray, List.getElem?_cons_zero, List.getElem?_cons_succ] at d2 f5
      have hz1' : w.heap.size < wr.heap.size := HC.out.box.lt
      have hz2' : p < wr.heap.size := HC.out.out.lt
      cases gk with
      | zero =>
        have hln : l.length = m := by omega
        have HE : Hid (l = args ++ List.replicate (m - args.length) 0) := by rw [Hid, ← hln]; exact HL.out
        have f0 := HC.out.out.cell 0; have f1 := HC.out.out.cell 1; have f2 := HC.out.out.cell 2; have f3 := HC.out.out.cell 3; have f4 := HC.out.out.cell 4; have f6 := HC.out.out.cell 6; have f7 := HC.out.out.cell 7
        have g0 := HC.out.res.cell 0; have g1 := HC.out.res.cell 1; have g2 := HC.out.res.cell 2; have g3 := HC.out.res.cell 3; have g4 := HC.out.res.cell 4; have g5 := HC.out.res.cell 5; have g6 := HC.out.res.cell 6; have g7 := HC.out.res.cell 7
        have r0 := HC.out.res.frozen 0; have r1 := HC.out.res.frozen 1; have r2 := HC.out.res.frozen 2; have r3 := HC.out.res.frozen 3; have r4 := HC.out.res.frozen 4; have r5 := HC.out.res.frozen 5; have r6 := HC.out.res.frozen 6; have r7 := HC.out.res.frozen 7
        simp only [List.getElem?_toArray, List.getElem?_cons_zero, List.getElem?_cons_succ] at f0 f1 f2 f3 f4 f6 f7 g0 g1 g2 g3 g4 g5 g6 g7
        clear HL hg
        have hsl : (xn0 n m args).slots = l := HE.out.symm
        have hrl : (xn0 n m args).slots.length = m := by rw [hsl]; exact hln
        have hrr : (xn0 n m args).regs = List.replicate n 0 := rfl
        have hrn : (xn0 n m args).regs.length = n := by rw [hrr, List.length_replicate]
        have HX := Lib.hid (And.intro hsl (And.intro hrl (And.intro hrr (And.intro hrn hln))))
        clear hsl hrl hrr hrn
        go_wp2
        (try simp only [Exit.inBlock, Exit.then])
        obtain ⟨hsl, hrl, hrr, hrn, hln⟩ := HX.out
        refine bodyPost_ret (v := .agg #[.int .i64 0, .int .i64 0, .int .i64 0, .int .i64 0, .slice GA n gc, .slice A m c, .slice none 0 0, .int .i64 0]) ?_ rfl ⟨GA, gc, A, c, none, 0, by rw [hrl, hrn]; rfl, ⟨?_, ?_, own_none _ _ _ _, ?_, fun k _ hk => by simp [Value.ownBlock] at hk, fun k _ hk => by simp [Value.ownBlock] at hk⟩, ?_⟩
        · exact results_cell_row rfl _ _ (w.heap.size + 1) 29 #[.int .i64 0, .int .i64 0, .int .i64 0, .int .i64 0, .slice GA n gc, .slice A m c, .slice none 0 0, .int .i64 0] (0, 0) _ rfl (HC.out.res.put8 _ _ _ _ _ _ _ _) Try.underlying29 rfl (by kernel_rfl)
        · rw [hrn, hrr]
          exact ownS_base ((mods8 wr (w.heap.size + 1) _ _ _ _ _ _ _ _).ownS HC.out.ownR fun k hk hs => by have := ownS_lt HC.out.ownR k hk; unfold Is at hs; omega) (by omega)
        · rw [hrl, hsl]
          have h9 := HC.out.own
          exact ownS_base ((mods8 wr (w.heap.size + 1) _ _ _ _ _ _ _ _).ownS (by rw [hln] at h9; exact h9) fun k hk hs => by have := ownS_lt h9 k (by rw [hln]; exact hk); unfold Is at hs; omega) (by omega)
        · intro k h1 h2
          rw [hrn] at h1
          rw [hrl, ← hln] at h2
          exact HC.out.ne k h1 h2
        · exact blw8 (by omega) HC.out.below _ _ _ _ _ _ _ _
      | succ g =>
        have hlt : l.length < m := by omega
        have HG := Lib.hid hg
        clear hg
        go_wp2_with (at_builtin; refine wpList_append_any _ rfl (.tmp 20) (.tmp 21) 25 rfl (w.heap.size + 1 + 1) 2 i0 (.int .i64 0) 1 8 Try.underlying25 hi hz0 hz1 hz2 rfl (by decide) _ _ _ rfl (((Mods.refl No wr).alloc (.cells #[.int .i64 0] 2)).ownS HC.out.own fun _ _ h => h) (wr.heap.size + 1) _ _ _ (ints [0]) rfl (sees_new wr #[.int .i64 0] 2) rfl (ints_one _) ?c1 ?c2 ?c3 ?_)
        case c1 => unfold maxLen; omega
        case c2 => omega
        case c3 => have := HC.out.box.lt; have := HC.out.out.lt; have := HC.out.lt; simp; omega
        intro v1 W3 ho3 hg3 ha3
        have ho4 : W3.ownsRow (w.heap.size + 1 + 1) 2 1 v1 (l ++ [0]).length (ints (l ++ [0])) := by rw [ints_append, List.length_append]; exact ho3
        clear ho3
        obtain ⟨A3, c3, rfl, _, _⟩ := ownS_slice ho4
        obtain ⟨hrow, hst⟩ := HC.out.step _ hg3 ho4 (by simpa using ha3)
        have f5 := hrow.cell 5; have r5 := hrow.frozen 5
        simp only [List.getElem?_toArray, List.getElem?_cons_zero, List.getElem?_cons_succ] at f5
        have HN := Lib.hid hst
        have hl1 : (l ++ [0]).length = l.length + 1 := by simp
        have HT : Hid (l ++ [0] = args ++ List.replicate ((l ++ [0]).length - args.length) 0) := by
          have h1 := HL.out
          have h2 : args.length ≤ l.length := by rw [h1, List.length_append]; omega
          rw [Hid, hl1, show l.length + 1 - args.length = l.length - args.length + 1 by omega, List.replicate_succ', ← List.append_assoc, ← h1]
        have HL1 := Lib.hid hl1
        clear hst hrow hg3 ho4 hl1 ha3
        go_wp2
        go_roundg g
        case measure => omega
        case rel => exact ⟨l ++ [0], A3, c3, by have := HL1.out; have := HG.out; omega, HT, by rw [Hid, ← HL1.out]; exact HN.out⟩

end Go.Proofs.Ytcimjghejclknaa
