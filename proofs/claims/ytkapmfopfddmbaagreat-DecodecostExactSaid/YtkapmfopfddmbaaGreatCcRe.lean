/-
  The reference of layer 20: Encode.
-/
import Derived.Test.YtkapmfopfddmbaaGreatPk30
import Derived.Test.YtkapmfopfddmbaaGreatPk19
import Derived.Test.YtkapmfopfddmbaaGreatFcEnc
import Derived.Test.YtkapmfopfddmbaaGreatFcMenc
import Derived.Test.YtkapmfopfddmbaaGreatWnPut
import Derived.Test.YtkapmfopfddmbaaGreatPk6
import Derived.Test.YtkapmfopfddmbaaGreatPk1
import Derived.Deep.Cut
import Derived.Deep.CutRange
namespace Go.Proofs.YtkapmfopfddmbaaGreat
open Go.RowKit
set_option linter.unusedVariables false
set_option linter.unusedSimpArgs false

/-- Lists of bytes that are seen, in a world that has grown. -/
structure EM (Wt : World) (L : List (Option Addr × Nat × List Nat)) (V : World) : Prop where
  blw : Below Wt.heap.size Wt V
  see : ∀ x ∈ L, Sees V V.heap.size x.1 (bts x.2.2) ∧ x.2.2.length ≤ x.2.1 ∧ x.2.1 ≤ maxLen

section
variable {Wt V V' : World} {L : List (Option Addr × Nat × List Nat)}

theorem EM.new (W : World) : EM W [] W := ⟨Below.refl _ _, fun x hx => by cases hx⟩

theorem EM.next (h : EM Wt L V) (hb : Below V.heap.size V V') : EM Wt L V' := ⟨h.blw.trans (hb.mono h.blw.size), fun x hx => ⟨((h.see x hx).1.below hb).more hb.size, (h.see x hx).2⟩⟩

theorem EM.drew (h : EM Wt L V) : EM Wt L V.drew := h.next (let b := Below.refl V.heap.size V; ⟨b.os, b.tape, b.output, b.size, b.block⟩)

theorem EM.add (h : EM Wt L V) (hb : Below V.heap.size V V') {A : Option Addr} {k : Nat} {l : List Nat} (hs : Sees V' V'.heap.size A (bts l)) (hk : l.length ≤ k) (hm : k ≤ maxLen) : EM Wt (L ++ [(A, k, l)]) V' :=
  ⟨(h.next hb).blw, fun x hx => by
    rcases List.mem_append.1 hx with hx | hx
    · exact (h.next hb).see x hx
    · obtain rfl := List.mem_singleton.1 hx
      exact ⟨hs, hk, hm⟩⟩

/-- The slice of byte slices that is built of three of them. -/
theorem EM.three (h : EM Wt L V) {A B C : Option Addr} {i j k : Nat} {x y z : List Nat} (h1 : (A, i, x) ∈ L) (h2 : (B, j, y) ∈ L) (h3 : (C, k, z) ∈ L) :
    SeesL (V.alloc (.cells #[.slice A x.length i, .slice B y.length j, .slice C z.length k] 33)) (V.heap.size + 1) (some ⟨V.heap.size, 0, none⟩) [x, y, z] := by
  have hal := (Below.refl V.heap.size V).alloc (Nat.le_refl _) (.cells #[.slice A x.length i, .slice B y.length j, .slice C z.length k] 33)
  refine ⟨[.slice A x.length i, .slice B y.length j, .slice C z.length k], fun _ => ⟨V.heap.size, 0, rfl, Nat.lt_succ_self _, fun p u hu => ?_⟩, rfl, fun p u hu => ?_⟩
  · have hr := Row.new V 33 #[.slice A x.length i, .slice B y.length j, .slice C z.length k]
    rw [Nat.zero_add, hr.cell p]
    simpa using hu
  · have g : ∀ q ∈ L, Sees (V.alloc (.cells #[.slice A x.length i, .slice B y.length j, .slice C z.length k] 33)) (V.heap.size + 1) q.1 (bts q.2.2) := fun q hq => ((h.see q hq).1.below hal).more (Nat.le_succ _)
    match p, hu with
    | 0, hu => injection hu with hu; subst hu; exact ⟨A, i, rfl, (h.see _ h1).2.1, (h.see _ h1).2.2, g _ h1⟩
    | 1, hu => injection hu with hu; subst hu; exact ⟨B, j, rfl, (h.see _ h2).2.1, (h.see _ h2).2.2, g _ h2⟩
    | 2, hu => injection hu with hu; subst hu; exact ⟨C, k, rfl, (h.see _ h3).2.1, (h.see _ h3).2.2, g _ h3⟩

end

set_option maxRecDepth 100000 in
set_option maxHeartbeats 16000000 in
theorem renc20_any {A1 : Option Addr} {k1 : Nat} {A2 : Option Addr} {k2 : Nat} {A3 : Option Addr} {k3 : Nat} {c : Ct} (w : World) (h : CeAt w w.heap.size A1 k1 A2 k2 A3 k3 c) (hs : SmW c) (hw : ∀ l ∈ c.inv, ∀ p ∈ l, PrWf p) (hcv : validC c = 0 → CV c) :
    Calls Tryz.prog 6 #[.agg #[.int .i64 c.sa, .int .i64 c.sr, .slice A1 c.bs.length k1, .int .i64 c.ta, .int .i64 c.tr, .int .i64 c.ts, .slice A2 c.ms.length k2, .slice A3 c.inv.length k3]] w (EncP w c) := by
  obtain ⟨i0, hi, hz0, hz1, hz2⟩ := info_parts Tryz.infoU8c
  have HK := Lib.hid (CeK.start h)
  have HW := Lib.hid hw
  have HS := Lib.hid hs
  have HCV := Lib.hid hcv
  clear h hw hs hcv
  go_enter Tryz.func6, Tryz.ntmps6
  go_upto_region 1 with fail
  generalize (w.alloc (.cells #[.int .i64 c.sa, .int .i64 c.sr, .slice A1 c.bs.length k1, .int .i64 c.ta, .int .i64 c.tr, .int .i64 c.ts, .slice A2 c.ms.length k2, .slice A3 c.inv.length k3] 30)) = W0 at *
  have c0 := HK.out.row.cell 0; have c1 := HK.out.row.cell 1; have c2 := HK.out.row.cell 2; have c3 := HK.out.row.cell 3
  have c4 := HK.out.row.cell 4; have c5 := HK.out.row.cell 5; have c6 := HK.out.row.cell 6; have c7 := HK.out.row.cell 7
  simp only [List.getElem?_toArray, List.getElem?_cons_zero, List.getElem?_cons_succ] at c0 c1 c2 c3 c4 c5 c6 c7
  have C1 := Lib.hid (rckvalid_w W0 (HK.out.see.more HK.out.blw.size) HS.out HW.out)
  obtain ⟨ve, hve⟩ : ∃ y, validC c = y := ⟨_, rfl⟩
  rw [hve] at C1
  have HVE := Lib.hid hve
  clear hve
  go_wp2_with fail
  refine C1.out.mono ?_
  rintro e W1 ⟨rfl, hb⟩
  have HK1 := Lib.hid (HK.out.next hb)
  clear hb C1 HK c0 c1 c2 c3 c4 c5 c6 c7
  by_cases h0 : ve ≠ 0
  · have d1 : (ve != 0) = true := by simp [h0]
    have HN0 : Hid (validC c ≠ 0) := by show _ ≠ _; rw [HVE.out]; exact h0
    clear h0
    go_wp2
    go_ret2
    exact ⟨HK1.out.blw, .inr ⟨HN0.out, by rw [HVE.out]; rfl⟩⟩
  have d1 : (ve != 0) = false := by simp; omega
  have HV0 : Hid (validC c = 0) := by show _ = _; rw [HVE.out]; omega
  have HV := Lib.hid (HCV.out HV0.out)
  clear h0
  go_upto_region 5 with fail
  have HO : Hid ((W1.alloc (.cells #[.int .u8 82, .int .u8 67, .int .u8 1] 5)).ownsRow w.heap.size 5 1 (.slice (some ⟨W1.heap.size, 0, none⟩) 3 3) 3 (bts [82, 67, 1])) :=
    ⟨rfl, .inr ⟨W1.heap.size, 3, _, rfl, HK1.out.blw.size, heap_alloc_new W1 _, Nat.le_refl _, by decide, rfl, rfl⟩⟩
  have HB2 := Lib.hid ((Below.refl W1.heap.size W1).alloc (Nat.le_refl _) (.cells #[.int .u8 82, .int .u8 67, .int .u8 1] 5))
  have HOB : Hid (w.heap.size ≤ W1.heap.size) := HK1.out.blw.size
  have HOB2 : Hid (W1.heap.size ≤ W1.heap.size) := Nat.le_refl _
  have hsee : ∀ V, Below W1.heap.size W1 V → CeAt V V.heap.size A1 k1 A2 k2 A3 k3 c := fun V hb => (HK1.out.see.below (hb.mono HK1.out.blw.size)).more (Nat.le_trans HK1.out.blw.size hb.size)
  have K1 : Hid (∀ V, Below W1.heap.size W1 V → Calls Tryz.prog 14 #[.agg #[.int .i64 c.sa, .int .i64 c.sr, .slice A1 c.bs.length k1]] V (RB V (encF' c.f))) := fun V hb => rputf18_any V.heap.size A1 c.bs k1 c.sa c.sr V (hsee V hb).bs (Nat.le_refl _) ⟨HV.out.vf.a.1, Int.le_trans HV.out.vf.a.2 (by decide)⟩ ⟨HV.out.vf.r.1, Int.le_trans HV.out.vf.r.2 (by decide)⟩ (Nat.le_trans HV.out.vf.n.2 (by decide)) (fun x hx => (HV.out.vf.v x hx).pb) (Nat.le_trans HV.out.ef (by decide))
  have K2 : Hid (∀ V, Below W1.heap.size W1 V → Calls Tryz.prog 15 #[.agg #[.int .i64 c.ta, .int .i64 c.tr, .int .i64 c.ts, .slice A2 c.ms.length k2]] V (RB V (encG c.g))) := fun V hb => rputmf18_any V.heap.size A2 c.ms k2 c.ta c.tr c.ts V (hsee V hb).ms (Nat.le_refl _) ⟨HV.out.vg.a.1, Int.le_trans HV.out.vg.a.2 (by decide)⟩ ⟨HV.out.vg.r.1, Int.le_trans HV.out.vg.r.2 (by decide)⟩ ⟨HV.out.vg.s.1, Int.le_trans HV.out.vg.s.2 (by decide)⟩ (Nat.le_trans HV.out.vg.n.2 (by decide)) (fun x hx => (HV.out.vg.v x hx).pb) (Nat.le_trans HV.out.eg (by decide))
  have K3 : Hid (∀ V, Below W1.heap.size W1 V → Calls Tryz.prog 16 #[.slice A3 c.inv.length k3] V (RB V (encW19 c.inv))) := fun V hb => rputw_any V.heap.size A3 c.inv k3 V (hsee V hb).inv (Nat.le_refl _) HV.out.il HV.out.ll HV.out.pp
  have KP : Hid (∀ V I T, Sees V V.heap.size I (bts ids20) → SeesL V V.heap.size T (parts20 c) → Calls Tryz.prog 13 #[.slice I 3 3, .slice T 3 3] V (Fresh V (packS ids20 (parts20 c)))) := fun V I T h1 h2 => rpack_any V.heap.size I T ids20 (parts20 c) 3 3 V h1 h2 (Nat.le_refl _) rfl (by intro c hc; unfold ids20 at hc; simp at hc; omega) (by show 3 ≤ 1000; decide) (by have := HV.out.size; omega) (by have := HV.out.size; omega)
  clear hsee
  have hob : W1.heap.size ≤ W1.heap.size := Nat.le_refl _
  generalize hW2 : W1.alloc (.cells #[.int .u8 82, .int .u8 67, .int .u8 1] 5) = W2 at *
  clear hW2
  obtain ⟨ob, hobe⟩ : ∃ y, y = W1.heap.size := ⟨_, rfl⟩
  rw [← hobe] at HO ⊢
  replace HOB : Hid (w.heap.size ≤ ob) := by show _ ≤ _; rw [hobe]; exact HOB.out
  replace HOB2 : Hid (W1.heap.size ≤ ob) := by show _ ≤ _; rw [hobe]; exact Nat.le_refl _
  clear hobe hob
  have HS9 : Hid (∀ V, Below W1.heap.size W1 V → V.cell? ⟨w.heap.size, 0, none⟩ = some (.int .i64 c.sa) ∧ V.cell? ⟨w.heap.size, 1, none⟩ = some (.int .i64 c.sr) ∧ V.cell? ⟨w.heap.size, 2, none⟩ = some (.slice A1 c.bs.length k1) ∧ V.cell? ⟨w.heap.size, 3, none⟩ = some (.int .i64 c.ta) ∧ V.cell? ⟨w.heap.size, 4, none⟩ = some (.int .i64 c.tr) ∧ V.cell? ⟨w.heap.size, 5, none⟩ = some (.int .i64 c.ts) ∧ V.cell? ⟨w.heap.size, 6, none⟩ = some (.slice A2 c.ms.length k2) ∧ V.cell? ⟨w.heap.size, 7, none⟩ = some (.slice A3 c.inv.length k3)) := fun V h => ⟨(h.cell (p := ⟨w.heap.size, 0, none⟩) HK1.out.row.lt).trans (HK1.out.row.cell 0), (h.cell (p := ⟨w.heap.size, 1, none⟩) HK1.out.row.lt).trans (HK1.out.row.cell 1), (h.cell (p := ⟨w.heap.size, 2, none⟩) HK1.out.row.lt).trans (HK1.out.row.cell 2), (h.cell (p := ⟨w.heap.size, 3, none⟩) HK1.out.row.lt).trans (HK1.out.row.cell 3), (h.cell (p := ⟨w.heap.size, 4, none⟩) HK1.out.row.lt).trans (HK1.out.row.cell 4), (h.cell (p := ⟨w.heap.size, 5, none⟩) HK1.out.row.lt).trans (HK1.out.row.cell 5), (h.cell (p := ⟨w.heap.size, 6, none⟩) HK1.out.row.lt).trans (HK1.out.row.cell 6), (h.cell (p := ⟨w.heap.size, 7, none⟩) HK1.out.row.lt).trans (HK1.out.row.cell 7)⟩
  go_wp2_with fail
  refine wp_region_held_drew (S := fun w' => w'.cell? ⟨w.heap.size, 0, none⟩ = some (.int .i64 c.sa) ∧ w'.cell? ⟨w.heap.size, 1, none⟩ = some (.int .i64 c.sr) ∧ w'.cell? ⟨w.heap.size, 2, none⟩ = some (.slice A1 c.bs.length k1) ∧ w'.cell? ⟨w.heap.size, 3, none⟩ = some (.int .i64 c.ta) ∧ w'.cell? ⟨w.heap.size, 4, none⟩ = some (.int .i64 c.tr) ∧ w'.cell? ⟨w.heap.size, 5, none⟩ = some (.int .i64 c.ts) ∧ w'.cell? ⟨w.heap.size, 6, none⟩ = some (.slice A2 c.ms.length k2) ∧ w'.cell? ⟨w.heap.size, 7, none⟩ = some (.slice A3 c.inv.length k3)) (by kernel_rfl) (HS9.out _ HB2.out.drew) (fun hHeld => ?_)
  have HE0 : Hid (EM W1 [] W2.drew) := ((EM.new W1).next HB2.out).drew
  have HO0 : Hid (W2.drew.ownsRow w.heap.size 5 1 (.slice (some ⟨ob, 0, none⟩) 3 3) 3 (bts [82, 67, 1])) := HO.out
  clear HO
  generalize hVV : W2.drew = V0 at *
  clear hVV
  refine take_at 0 12 (.slice (some ⟨ob, 0, none⟩) 3 3) rfl rfl (by kernel_rfl) (by kernel_rfl) (by kernel_rfl) (fun _ _ _ h => h) (Or.inl ⟨by rfl, ?_⟩) hHeld ?_
  · intro w9 hSw
    (try dsimp only at hSw)
    go_simp
  (try simp only [Act.put, List.setIfInBounds_toArray, List.set_cons_zero, List.set_cons_succ])
  refine take_at 2 14 (.pointer (some ⟨w.heap.size, 0, none⟩)) rfl rfl (by kernel_rfl) (by kernel_rfl) (by kernel_rfl) (fun _ _ _ h => h) (Or.inl ⟨by rfl, ?_⟩) hHeld ?_
  · intro w9 hSw
    (try dsimp only at hSw)
    go_simp
  (try simp only [Act.put, List.setIfInBounds_toArray, List.set_cons_zero, List.set_cons_succ])
  refine take_at 3 15 (.agg #[.int .i64 c.sa, .int .i64 c.sr, .slice A1 c.bs.length k1]) rfl rfl (by kernel_rfl) (by kernel_rfl) (by kernel_rfl) (fun _ _ _ h => h) (Or.inl ⟨by rfl, ?_⟩) hHeld ?_
  · intro w9 hSw
    (try dsimp only at hSw)
    go_simp
  (try simp only [Act.put, List.setIfInBounds_toArray, List.set_cons_zero, List.set_cons_succ])
  refine take_at 5 17 (.pointer (some ⟨w.heap.size, 3, none⟩)) rfl rfl (by kernel_rfl) (by kernel_rfl) (by kernel_rfl) (fun _ _ _ h => h) (Or.inl ⟨by rfl, ?_⟩) hHeld ?_
  · intro w9 hSw
    (try dsimp only at hSw)
    go_simp
  (try simp only [Act.put, List.setIfInBounds_toArray, List.set_cons_zero, List.set_cons_succ])
  refine take_at 6 18 (.agg #[.int .i64 c.ta, .int .i64 c.tr, .int .i64 c.ts, .slice A2 c.ms.length k2]) rfl rfl (by kernel_rfl) (by kernel_rfl) (by kernel_rfl) (fun _ _ _ h => h) (Or.inl ⟨by rfl, ?_⟩) hHeld ?_
  · intro w9 hSw
    (try dsimp only at hSw)
    go_simp
  (try simp only [Act.put, List.setIfInBounds_toArray, List.set_cons_zero, List.set_cons_succ])
  refine take_at 8 20 (.pointer (some ⟨w.heap.size, 7, none⟩)) rfl rfl (by kernel_rfl) (by kernel_rfl) (by kernel_rfl) (fun _ _ _ h => h) (Or.inl ⟨by rfl, ?_⟩) hHeld ?_
  · intro w9 hSw
    (try dsimp only at hSw)
    go_simp
  (try simp only [Act.put, List.setIfInBounds_toArray, List.set_cons_zero, List.set_cons_succ])
  refine take_at 9 21 (.slice A3 c.inv.length k3) rfl rfl (by kernel_rfl) (by kernel_rfl) (by kernel_rfl) (fun _ _ _ h => h) (Or.inl ⟨by rfl, ?_⟩) hHeld ?_
  · intro w9 hSw
    (try dsimp only at hSw)
    go_simp
  (try simp only [Act.put, List.setIfInBounds_toArray, List.set_cons_zero, List.set_cons_succ])
  refine wpAnyH_ready (rs := [1, 4]) (by kernel_rfl) (by simp) ?_
  refine AllReadyH.cons rfl (fun K hK => ?_) ?_
  · go_simp
    have hb := (Below.refl V0.heap.size V0).alloc (Nat.le_refl _) (.cells #[.int .u8 1, .int .u8 2, .int .u8 3] 5)
    have hsn := lit_sees V0 #[.int .u8 1, .int .u8 2, .int .u8 3] 5 ids20 rfl
    have HE1 := Lib.hid (HE0.out.add hb (hsn.more (by simp)) (k := 3) (by decide) (by decide))
    have HO1 := Lib.hid ((Mods.of_below (S := No) hb).own HO0.out fun _ _ hk => hk.elim)
    refine hK.out _ _ (HS9.out _ HE1.out.blw) (fun hHeld => ?_)
    clear hK K
    clear hb hsn
    generalize V0.heap.size = ib at *
    generalize V0.alloc (.cells #[.int .u8 1, .int .u8 2, .int .u8 3] 5) = V1 at *
    refine wpAnyH_ready (rs := [4]) (by kernel_rfl) (by simp) ?_
    refine AllReadyH.cons rfl (fun K hK => ?_) AllReadyH.nil
    go_simp
    refine (K1.out V1 HE1.out.blw).mono ?_
    rintro e V2 ⟨Af, kf, rfl, ho, hb⟩
    (try go_wp2_with fail)
    obtain ⟨hl9, hm9⟩ := own_cap20 ho
    have HE2 := Lib.hid (HE1.out.add hb (Sees.of_own ho) hl9 hm9)
    have HO2 := Lib.hid ((Mods.of_below (S := No) hb).own HO1.out fun _ _ hk => hk.elim)
    refine hK.out _ _ (HS9.out _ HE2.out.blw) (fun hHeld => ?_)
    clear hK K
    clear ho hb hl9 hm9
    refine wpAnyH_ready (rs := [7]) (by kernel_rfl) (by simp) ?_
    refine AllReadyH.cons rfl (fun K hK => ?_) AllReadyH.nil
    go_simp
    refine (K2.out V2 HE2.out.blw).mono ?_
    rintro e V3 ⟨Ag, kg, rfl, ho, hb⟩
    (try go_wp2_with fail)
    obtain ⟨hl9, hm9⟩ := own_cap20 ho
    have HE3 := Lib.hid (HE2.out.add hb (Sees.of_own ho) hl9 hm9)
    have HO3 := Lib.hid ((Mods.of_below (S := No) hb).own HO2.out fun _ _ hk => hk.elim)
    refine hK.out _ _ (HS9.out _ HE3.out.blw) (fun hHeld => ?_)
    clear hK K
    clear ho hb hl9 hm9
    refine wpAnyH_ready (rs := [10]) (by kernel_rfl) (by simp) ?_
    refine AllReadyH.cons rfl (fun K hK => ?_) AllReadyH.nil
    go_simp
    refine (K3.out V3 HE3.out.blw).mono ?_
    rintro e V4 ⟨Aw, kw, rfl, ho, hb⟩
    (try go_wp2_with fail)
    obtain ⟨hl9, hm9⟩ := own_cap20 ho
    have HE4 := Lib.hid (HE3.out.add hb (Sees.of_own ho) hl9 hm9)
    have HO4 := Lib.hid ((Mods.of_below (S := No) hb).own HO3.out fun _ _ hk => hk.elim)
    refine hK.out _ _ (HS9.out _ HE4.out.blw) (fun hHeld => ?_)
    clear hK K
    clear ho hb hl9 hm9
    refine wpAnyH_ready (rs := [11]) (by kernel_rfl) (by simp) ?_
    refine AllReadyH.cons rfl (fun K hK => ?_) AllReadyH.nil
    go_simp
    have hb := (Below.refl V4.heap.size V4).alloc (Nat.le_refl _) (.cells #[.slice Af (encF' c.f).length kf, .slice Ag (encG c.g).length kg, .slice Aw (encW19 c.inv).length kw] 33)
    have HE5 := Lib.hid (HE4.out.next hb)
    have HT5 := Lib.hid ((HE4.out.three (A := Af) (i := kf) (x := encF' c.f) (B := Ag) (j := kg) (y := encG c.g) (C := Aw) (k := kw) (z := encW19 c.inv) (by simp) (by simp) (by simp)).more (B' := (V4.alloc (.cells #[.slice Af (encF' c.f).length kf, .slice Ag (encG c.g).length kg, .slice Aw (encW19 c.inv).length kw] 33)).heap.size) (by simp))
    have HO5 := Lib.hid ((Mods.of_below (S := No) hb).own HO4.out fun _ _ hk => hk.elim)
    refine hK.out _ _ (HS9.out _ HE5.out.blw) (fun hHeld => ?_)
    clear hK K
    clear hb
    generalize V4.heap.size = tb at *
    generalize V4.alloc (.cells #[.slice Af (encF' c.f).length kf, .slice Ag (encG c.g).length kg, .slice Aw (encW19 c.inv).length kw] 33) = V5 at *
    have HT := HT5
    refine wpAnyH_ready (rs := [12]) (by kernel_rfl) (by simp) ?_
    refine AllReadyH.cons rfl (fun K hK => ?_) AllReadyH.nil
    have HI9 : Hid (Sees V5 V5.heap.size (some ⟨ib, 0, none⟩) (bts ids20)) := (HE5.out.see (some ⟨ib, 0, none⟩, 3, ids20) (by simp)).1
    go_simp
    refine (KP.out V5 (some ⟨ib, 0, none⟩) (some ⟨tb, 0, none⟩) HI9.out HT.out).mono ?_
    rintro e V6 ⟨Ap, kp, rfl, ho, hb⟩
    (try go_wp2_with fail)
    obtain ⟨hl9, hm9⟩ := own_cap20 ho
    have HE6 := Lib.hid (HE5.out.add hb (Sees.of_own ho) hl9 hm9)
    have HO6 := Lib.hid ((Mods.of_below (S := No) hb).own HO5.out fun _ _ hk => hk.elim)
    refine hK.out _ _ (HS9.out _ HE6.out.blw) (fun hHeld => ?_)
    clear hK K
    clear ho hb hl9 hm9
    refine wpAnyH_ready (rs := [13]) (by kernel_rfl) (by simp) ?_
    refine AllReadyH.cons rfl (fun K hK => ?_) AllReadyH.nil
    have hpl : (packS ids20 (parts20 c)).length ≤ 700000 := by have := HV.out.size.2.2; unfold encCt at this; simp at this; omega
    refine step_append_any _ rfl (.tmp 12) (.tmp 24) 33 rfl w.heap.size 5 i0 (.int .u8 0) 1 1 Tryz.underlying33 hi hz0 hz1 hz2 rfl (by decide) (.slice (some ⟨ob, 0, none⟩) 3 3) 3 (bts [82, 67, 1]) rfl HO6.out V6.heap.size Ap (packS ids20 (parts20 c)).length kp (bts (packS ids20 (parts20 c))) rfl (HE6.out.see (Ap, kp, packS ids20 (parts20 c)) (by simp)).1 (by rw [bts_length, Nat.mul_one]) (bts_one _) (by unfold maxLen; omega) (by omega) (Nat.le_trans HK1.out.blw.size HE6.out.blw.size) ?_
    intro vr V7 ho hg _
    (try simp only [Act.put, List.getElem_toArray, List.getElem_cons_succ, List.getElem_cons_zero, List.setIfInBounds_toArray, List.set_cons_succ, List.set_cons_zero])
    have hbf : Below w.heap.size w V7 := (HK1.out.blw.trans (HE6.out.blw.mono HK1.out.blw.size)).grown hg (Nat.le_trans HK1.out.blw.size HE6.out.blw.size) (fun k hk => by simp [Value.ownBlock] at hk; subst hk; exact HOB.out)
    replace ho : V7.ownsRow w.heap.size 5 1 vr (encCt c).length (bts (encCt c)) := by
      have e1 : 3 + (packS ids20 (parts20 c)).length = (encCt c).length := by unfold encCt; simp; omega
      have e2 : bts [82, 67, 1] ++ bts (packS ids20 (parts20 c)) = bts (encCt c) := by rw [← bts_append]; rfl
      rw [e1, e2] at ho
      exact ho
    obtain ⟨Ar, kr, rfl, _, _⟩ := own_slice ho (bts_length _)
    have HF9 := Lib.hid (And.intro ho hbf)
    refine hK.out _ _ (HS9.out _ ?hs9) (fun hHeld => ?_)
    case hs9 => exact (HE6.out.blw.grown hg HE6.out.blw.size (fun k hk => by simp [Value.ownBlock] at hk; subst hk; exact HOB2.out))
    clear hK K ho hbf hg
    refine take_at 14 2 (.slice Ar (encCt c).length kr) rfl rfl (by kernel_rfl) (by kernel_rfl) (by kernel_rfl) (fun _ _ _ h => h) (Or.inl ⟨by rfl, ?_⟩) hHeld ?_
    · intro w9 hSw
      (try dsimp only at hSw)
      go_simp
    (try simp only [Act.put, List.setIfInBounds_toArray, List.set_cons_zero, List.set_cons_succ])
    refine take_at 15 3 (.int .i64 0) rfl rfl (by kernel_rfl) (by kernel_rfl) (by kernel_rfl) (fun _ _ _ h => h) (Or.inl ⟨by rfl, ?_⟩) hHeld ?_
    · intro w9 hSw
      (try dsimp only at hSw)
      go_simp
    (try simp only [Act.put, List.setIfInBounds_toArray, List.set_cons_zero, List.set_cons_succ])
    refine wpAnyH_done (by kernel_rfl) ?_ _
    clear hHeld
    go_wp2
    go_ret2
    exact ⟨HF9.out.2, .inl ⟨HV0.out, Ar, kr, rfl, HF9.out.1⟩⟩
  · refine AllReadyH.cons rfl (fun K hK => ?_) AllReadyH.nil
    go_simp
    refine (K1.out V0 HE0.out.blw).mono ?_
    rintro e V1 ⟨Af, kf, rfl, ho, hb⟩
    (try go_wp2_with fail)
    obtain ⟨hl9, hm9⟩ := own_cap20 ho
    have HE1 := Lib.hid (HE0.out.add hb (Sees.of_own ho) hl9 hm9)
    have HO1 := Lib.hid ((Mods.of_below (S := No) hb).own HO0.out fun _ _ hk => hk.elim)
    refine hK.out _ _ (HS9.out _ HE1.out.blw) (fun hHeld => ?_)
    clear hK K
    clear ho hb hl9 hm9
    refine wpAnyH_ready (rs := [1, 7]) (by kernel_rfl) (by simp) ?_
    refine AllReadyH.cons rfl (fun K hK => ?_) ?_
    · go_simp
      have hb := (Below.refl V1.heap.size V1).alloc (Nat.le_refl _) (.cells #[.int .u8 1, .int .u8 2, .int .u8 3] 5)
      have hsn := lit_sees V1 #[.int .u8 1, .int .u8 2, .int .u8 3] 5 ids20 rfl
      have HE2 := Lib.hid (HE1.out.add hb (hsn.more (by simp)) (k := 3) (by decide) (by decide))
      have HO2 := Lib.hid ((Mods.of_below (S := No) hb).own HO1.out fun _ _ hk => hk.elim)
      refine hK.out _ _ (HS9.out _ HE2.out.blw) (fun hHeld => ?_)
      clear hK K
      clear hb hsn
      generalize V1.heap.size = ib at *
      generalize V1.alloc (.cells #[.int .u8 1, .int .u8 2, .int .u8 3] 5) = V2 at *
      refine wpAnyH_ready (rs := [7]) (by kernel_rfl) (by simp) ?_
      refine AllReadyH.cons rfl (fun K hK => ?_) AllReadyH.nil
      go_simp
      refine (K2.out V2 HE2.out.blw).mono ?_
      rintro e V3 ⟨Ag, kg, rfl, ho, hb⟩
      (try go_wp2_with fail)
      obtain ⟨hl9, hm9⟩ := own_cap20 ho
      have HE3 := Lib.hid (HE2.out.add hb (Sees.of_own ho) hl9 hm9)
      have HO3 := Lib.hid ((Mods.of_below (S := No) hb).own HO2.out fun _ _ hk => hk.elim)
      refine hK.out _ _ (HS9.out _ HE3.out.blw) (fun hHeld => ?_)
      clear hK K
      clear ho hb hl9 hm9
      refine wpAnyH_ready (rs := [10]) (by kernel_rfl) (by simp) ?_
      refine AllReadyH.cons rfl (fun K hK => ?_) AllReadyH.nil
      go_simp
      refine (K3.out V3 HE3.out.blw).mono ?_
      rintro e V4 ⟨Aw, kw, rfl, ho, hb⟩
      (try go_wp2_with fail)
      obtain ⟨hl9, hm9⟩ := own_cap20 ho
      have HE4 := Lib.hid (HE3.out.add hb (Sees.of_own ho) hl9 hm9)
      have HO4 := Lib.hid ((Mods.of_below (S := No) hb).own HO3.out fun _ _ hk => hk.elim)
      refine hK.out _ _ (HS9.out _ HE4.out.blw) (fun hHeld => ?_)
      clear hK K
      clear ho hb hl9 hm9
      refine wpAnyH_ready (rs := [11]) (by kernel_rfl) (by simp) ?_
      refine AllReadyH.cons rfl (fun K hK => ?_) AllReadyH.nil
      go_simp
      have hb := (Below.refl V4.heap.size V4).alloc (Nat.le_refl _) (.cells #[.slice Af (encF' c.f).length kf, .slice Ag (encG c.g).length kg, .slice Aw (encW19 c.inv).length kw] 33)
      have HE5 := Lib.hid (HE4.out.next hb)
      have HT5 := Lib.hid ((HE4.out.three (A := Af) (i := kf) (x := encF' c.f) (B := Ag) (j := kg) (y := encG c.g) (C := Aw) (k := kw) (z := encW19 c.inv) (by simp) (by simp) (by simp)).more (B' := (V4.alloc (.cells #[.slice Af (encF' c.f).length kf, .slice Ag (encG c.g).length kg, .slice Aw (encW19 c.inv).length kw] 33)).heap.size) (by simp))
      have HO5 := Lib.hid ((Mods.of_below (S := No) hb).own HO4.out fun _ _ hk => hk.elim)
      refine hK.out _ _ (HS9.out _ HE5.out.blw) (fun hHeld => ?_)
      clear hK K
      clear hb
      generalize V4.heap.size = tb at *
      generalize V4.alloc (.cells #[.slice Af (encF' c.f).length kf, .slice Ag (encG c.g).length kg, .slice Aw (encW19 c.inv).length kw] 33) = V5 at *
      have HT := HT5
      refine wpAnyH_ready (rs := [12]) (by kernel_rfl) (by simp) ?_
      refine AllReadyH.cons rfl (fun K hK => ?_) AllReadyH.nil
      have HI9 : Hid (Sees V5 V5.heap.size (some ⟨ib, 0, none⟩) (bts ids20)) := (HE5.out.see (some ⟨ib, 0, none⟩, 3, ids20) (by simp)).1
      go_simp
      refine (KP.out V5 (some ⟨ib, 0, none⟩) (some ⟨tb, 0, none⟩) HI9.out HT.out).mono ?_
      rintro e V6 ⟨Ap, kp, rfl, ho, hb⟩
      (try go_wp2_with fail)
      obtain ⟨hl9, hm9⟩ := own_cap20 ho
      have HE6 := Lib.hid (HE5.out.add hb (Sees.of_own ho) hl9 hm9)
      have HO6 := Lib.hid ((Mods.of_below (S := No) hb).own HO5.out fun _ _ hk => hk.elim)
      refine hK.out _ _ (HS9.out _ HE6.out.blw) (fun hHeld => ?_)
      clear hK K
      clear ho hb hl9 hm9
      refine wpAnyH_ready (rs := [13]) (by kernel_rfl) (by simp) ?_
      refine AllReadyH.cons rfl (fun K hK => ?_) AllReadyH.nil
      have hpl : (packS ids20 (parts20 c)).length ≤ 700000 := by have := HV.out.size.2.2; unfold encCt at this; simp at this; omega
      refine step_append_any _ rfl (.tmp 12) (.tmp 24) 33 rfl w.heap.size 5 i0 (.int .u8 0) 1 1 Tryz.underlying33 hi hz0 hz1 hz2 rfl (by decide) (.slice (some ⟨ob, 0, none⟩) 3 3) 3 (bts [82, 67, 1]) rfl HO6.out V6.heap.size Ap (packS ids20 (parts20 c)).length kp (bts (packS ids20 (parts20 c))) rfl (HE6.out.see (Ap, kp, packS ids20 (parts20 c)) (by simp)).1 (by rw [bts_length, Nat.mul_one]) (bts_one _) (by unfold maxLen; omega) (by omega) (Nat.le_trans HK1.out.blw.size HE6.out.blw.size) ?_
      intro vr V7 ho hg _
      (try simp only [Act.put, List.getElem_toArray, List.getElem_cons_succ, List.getElem_cons_zero, List.setIfInBounds_toArray, List.set_cons_succ, List.set_cons_zero])
      have hbf : Below w.heap.size w V7 := (HK1.out.blw.trans (HE6.out.blw.mono HK1.out.blw.size)).grown hg (Nat.le_trans HK1.out.blw.size HE6.out.blw.size) (fun k hk => by simp [Value.ownBlock] at hk; subst hk; exact HOB.out)
      replace ho : V7.ownsRow w.heap.size 5 1 vr (encCt c).length (bts (encCt c)) := by
        have e1 : 3 + (packS ids20 (parts20 c)).length = (encCt c).length := by unfold encCt; simp; omega
        have e2 : bts [82, 67, 1] ++ bts (packS ids20 (parts20 c)) = bts (encCt c) := by rw [← bts_append]; rfl
        rw [e1, e2] at ho
        exact ho
      obtain ⟨Ar, kr, rfl, _, _⟩ := own_slice ho (bts_length _)
      have HF9 := Lib.hid (And.intro ho hbf)
      refine hK.out _ _ (HS9.out _ ?hs9) (fun hHeld => ?_)
      case hs9 => exact (HE6.out.blw.grown hg HE6.out.blw.size (fun k hk => by simp [Value.ownBlock] at hk; subst hk; exact HOB2.out))
      clear hK K ho hbf hg
      refine take_at 14 2 (.slice Ar (encCt c).length kr) rfl rfl (by kernel_rfl) (by kernel_rfl) (by kernel_rfl) (fun _ _ _ h => h) (Or.inl ⟨by rfl, ?_⟩) hHeld ?_
      · intro w9 hSw
        (try dsimp only at hSw)
        go_simp
      (try simp only [Act.put, List.setIfInBounds_toArray, List.set_cons_zero, List.set_cons_succ])
      refine take_at 15 3 (.int .i64 0) rfl rfl (by kernel_rfl) (by kernel_rfl) (by kernel_rfl) (fun _ _ _ h => h) (Or.inl ⟨by rfl, ?_⟩) hHeld ?_
      · intro w9 hSw
        (try dsimp only at hSw)
        go_simp
      (try simp only [Act.put, List.setIfInBounds_toArray, List.set_cons_zero, List.set_cons_succ])
      refine wpAnyH_done (by kernel_rfl) ?_ _
      clear hHeld
      go_wp2
      go_ret2
      exact ⟨HF9.out.2, .inl ⟨HV0.out, Ar, kr, rfl, HF9.out.1⟩⟩
    · refine AllReadyH.cons rfl (fun K hK => ?_) AllReadyH.nil
      go_simp
      refine (K2.out V1 HE1.out.blw).mono ?_
      rintro e V2 ⟨Ag, kg, rfl, ho, hb⟩
      (try go_wp2_with fail)
      obtain ⟨hl9, hm9⟩ := own_cap20 ho
      have HE2 := Lib.hid (HE1.out.add hb (Sees.of_own ho) hl9 hm9)
      have HO2 := Lib.hid ((Mods.of_below (S := No) hb).own HO1.out fun _ _ hk => hk.elim)
      refine hK.out _ _ (HS9.out _ HE2.out.blw) (fun hHeld => ?_)
      clear hK K
      clear ho hb hl9 hm9
      refine wpAnyH_ready (rs := [1, 10]) (by kernel_rfl) (by simp) ?_
      refine AllReadyH.cons rfl (fun K hK => ?_) ?_
      · go_simp
        have hb := (Below.refl V2.heap.size V2).alloc (Nat.le_refl _) (.cells #[.int .u8 1, .int .u8 2, .int .u8 3] 5)
        have hsn := lit_sees V2 #[.int .u8 1, .int .u8 2, .int .u8 3] 5 ids20 rfl
        have HE3 := Lib.hid (HE2.out.add hb (hsn.more (by simp)) (k := 3) (by decide) (by decide))
        have HO3 := Lib.hid ((Mods.of_below (S := No) hb).own HO2.out fun _ _ hk => hk.elim)
        refine hK.out _ _ (HS9.out _ HE3.out.blw) (fun hHeld => ?_)
        clear hK K
        clear hb hsn
        generalize V2.heap.size = ib at *
        generalize V2.alloc (.cells #[.int .u8 1, .int .u8 2, .int .u8 3] 5) = V3 at *
        refine wpAnyH_ready (rs := [10]) (by kernel_rfl) (by simp) ?_
        refine AllReadyH.cons rfl (fun K hK => ?_) AllReadyH.nil
        go_simp
        refine (K3.out V3 HE3.out.blw).mono ?_
        rintro e V4 ⟨Aw, kw, rfl, ho, hb⟩
        (try go_wp2_with fail)
        obtain ⟨hl9, hm9⟩ := own_cap20 ho
        have HE4 := Lib.hid (HE3.out.add hb (Sees.of_own ho) hl9 hm9)
        have HO4 := Lib.hid ((Mods.of_below (S := No) hb).own HO3.out fun _ _ hk => hk.elim)
        refine hK.out _ _ (HS9.out _ HE4.out.blw) (fun hHeld => ?_)
        clear hK K
        clear ho hb hl9 hm9
        refine wpAnyH_ready (rs := [11]) (by kernel_rfl) (by simp) ?_
        refine AllReadyH.cons rfl (fun K hK => ?_) AllReadyH.nil
        go_simp
        have hb := (Below.refl V4.heap.size V4).alloc (Nat.le_refl _) (.cells #[.slice Af (encF' c.f).length kf, .slice Ag (encG c.g).length kg, .slice Aw (encW19 c.inv).length kw] 33)
        have HE5 := Lib.hid (HE4.out.next hb)
        have HT5 := Lib.hid ((HE4.out.three (A := Af) (i := kf) (x := encF' c.f) (B := Ag) (j := kg) (y := encG c.g) (C := Aw) (k := kw) (z := encW19 c.inv) (by simp) (by simp) (by simp)).more (B' := (V4.alloc (.cells #[.slice Af (encF' c.f).length kf, .slice Ag (encG c.g).length kg, .slice Aw (encW19 c.inv).length kw] 33)).heap.size) (by simp))
        have HO5 := Lib.hid ((Mods.of_below (S := No) hb).own HO4.out fun _ _ hk => hk.elim)
        refine hK.out _ _ (HS9.out _ HE5.out.blw) (fun hHeld => ?_)
        clear hK K
        clear hb
        generalize V4.heap.size = tb at *
        generalize V4.alloc (.cells #[.slice Af (encF' c.f).length kf, .slice Ag (encG c.g).length kg, .slice Aw (encW19 c.inv).length kw] 33) = V5 at *
        have HT := HT5
        refine wpAnyH_ready (rs := [12]) (by kernel_rfl) (by simp) ?_
        refine AllReadyH.cons rfl (fun K hK => ?_) AllReadyH.nil
        have HI9 : Hid (Sees V5 V5.heap.size (some ⟨ib, 0, none⟩) (bts ids20)) := (HE5.out.see (some ⟨ib, 0, none⟩, 3, ids20) (by simp)).1
        go_simp
        refine (KP.out V5 (some ⟨ib, 0, none⟩) (some ⟨tb, 0, none⟩) HI9.out HT.out).mono ?_
        rintro e V6 ⟨Ap, kp, rfl, ho, hb⟩
        (try go_wp2_with fail)
        obtain ⟨hl9, hm9⟩ := own_cap20 ho
        have HE6 := Lib.hid (HE5.out.add hb (Sees.of_own ho) hl9 hm9)
        have HO6 := Lib.hid ((Mods.of_below (S := No) hb).own HO5.out fun _ _ hk => hk.elim)
        refine hK.out _ _ (HS9.out _ HE6.out.blw) (fun hHeld => ?_)
        clear hK K
        clear ho hb hl9 hm9
        refine wpAnyH_ready (rs := [13]) (by kernel_rfl) (by simp) ?_
        refine AllReadyH.cons rfl (fun K hK => ?_) AllReadyH.nil
        have hpl : (packS ids20 (parts20 c)).length ≤ 700000 := by have := HV.out.size.2.2; unfold encCt at this; simp at this; omega
        refine step_append_any _ rfl (.tmp 12) (.tmp 24) 33 rfl w.heap.size 5 i0 (.int .u8 0) 1 1 Tryz.underlying33 hi hz0 hz1 hz2 rfl (by decide) (.slice (some ⟨ob, 0, none⟩) 3 3) 3 (bts [82, 67, 1]) rfl HO6.out V6.heap.size Ap (packS ids20 (parts20 c)).length kp (bts (packS ids20 (parts20 c))) rfl (HE6.out.see (Ap, kp, packS ids20 (parts20 c)) (by simp)).1 (by rw [bts_length, Nat.mul_one]) (bts_one _) (by unfold maxLen; omega) (by omega) (Nat.le_trans HK1.out.blw.size HE6.out.blw.size) ?_
        intro vr V7 ho hg _
        (try simp only [Act.put, List.getElem_toArray, List.getElem_cons_succ, List.getElem_cons_zero, List.setIfInBounds_toArray, List.set_cons_succ, List.set_cons_zero])
        have hbf : Below w.heap.size w V7 := (HK1.out.blw.trans (HE6.out.blw.mono HK1.out.blw.size)).grown hg (Nat.le_trans HK1.out.blw.size HE6.out.blw.size) (fun k hk => by simp [Value.ownBlock] at hk; subst hk; exact HOB.out)
        replace ho : V7.ownsRow w.heap.size 5 1 vr (encCt c).length (bts (encCt c)) := by
          have e1 : 3 + (packS ids20 (parts20 c)).length = (encCt c).length := by unfold encCt; simp; omega
          have e2 : bts [82, 67, 1] ++ bts (packS ids20 (parts20 c)) = bts (encCt c) := by rw [← bts_append]; rfl
          rw [e1, e2] at ho
          exact ho
        obtain ⟨Ar, kr, rfl, _, _⟩ := own_slice ho (bts_length _)
        have HF9 := Lib.hid (And.intro ho hbf)
        refine hK.out _ _ (HS9.out _ ?hs9) (fun hHeld => ?_)
        case hs9 => exact (HE6.out.blw.grown hg HE6.out.blw.size (fun k hk => by simp [Value.ownBlock] at hk; subst hk; exact HOB2.out))
        clear hK K ho hbf hg
        refine take_at 14 2 (.slice Ar (encCt c).length kr) rfl rfl (by kernel_rfl) (by kernel_rfl) (by kernel_rfl) (fun _ _ _ h => h) (Or.inl ⟨by rfl, ?_⟩) hHeld ?_
        · intro w9 hSw
          (try dsimp only at hSw)
          go_simp
        (try simp only [Act.put, List.setIfInBounds_toArray, List.set_cons_zero, List.set_cons_succ])
        refine take_at 15 3 (.int .i64 0) rfl rfl (by kernel_rfl) (by kernel_rfl) (by kernel_rfl) (fun _ _ _ h => h) (Or.inl ⟨by rfl, ?_⟩) hHeld ?_
        · intro w9 hSw
          (try dsimp only at hSw)
          go_simp
        (try simp only [Act.put, List.setIfInBounds_toArray, List.set_cons_zero, List.set_cons_succ])
        refine wpAnyH_done (by kernel_rfl) ?_ _
        clear hHeld
        go_wp2
        go_ret2
        exact ⟨HF9.out.2, .inl ⟨HV0.out, Ar, kr, rfl, HF9.out.1⟩⟩
      · refine AllReadyH.cons rfl (fun K hK => ?_) AllReadyH.nil
        go_simp
        refine (K3.out V2 HE2.out.blw).mono ?_
        rintro e V3 ⟨Aw, kw, rfl, ho, hb⟩
        (try go_wp2_with fail)
        obtain ⟨hl9, hm9⟩ := own_cap20 ho
        have HE3 := Lib.hid (HE2.out.add hb (Sees.of_own ho) hl9 hm9)
        have HO3 := Lib.hid ((Mods.of_below (S := No) hb).own HO2.out fun _ _ hk => hk.elim)
        refine hK.out _ _ (HS9.out _ HE3.out.blw) (fun hHeld => ?_)
        clear hK K
        clear ho hb hl9 hm9
        refine wpAnyH_ready (rs := [1, 11]) (by kernel_rfl) (by simp) ?_
        refine AllReadyH.cons rfl (fun K hK => ?_) ?_
        · go_simp
          have hb := (Below.refl V3.heap.size V3).alloc (Nat.le_refl _) (.cells #[.int .u8 1, .int .u8 2, .int .u8 3] 5)
          have hsn := lit_sees V3 #[.int .u8 1, .int .u8 2, .int .u8 3] 5 ids20 rfl
          have HE4 := Lib.hid (HE3.out.add hb (hsn.more (by simp)) (k := 3) (by decide) (by decide))
          have HO4 := Lib.hid ((Mods.of_below (S := No) hb).own HO3.out fun _ _ hk => hk.elim)
          refine hK.out _ _ (HS9.out _ HE4.out.blw) (fun hHeld => ?_)
          clear hK K
          clear hb hsn
          generalize V3.heap.size = ib at *
          generalize V3.alloc (.cells #[.int .u8 1, .int .u8 2, .int .u8 3] 5) = V4 at *
          refine wpAnyH_ready (rs := [11]) (by kernel_rfl) (by simp) ?_
          refine AllReadyH.cons rfl (fun K hK => ?_) AllReadyH.nil
          go_simp
          have hb := (Below.refl V4.heap.size V4).alloc (Nat.le_refl _) (.cells #[.slice Af (encF' c.f).length kf, .slice Ag (encG c.g).length kg, .slice Aw (encW19 c.inv).length kw] 33)
          have HE5 := Lib.hid (HE4.out.next hb)
          have HT5 := Lib.hid ((HE4.out.three (A := Af) (i := kf) (x := encF' c.f) (B := Ag) (j := kg) (y := encG c.g) (C := Aw) (k := kw) (z := encW19 c.inv) (by simp) (by simp) (by simp)).more (B' := (V4.alloc (.cells #[.slice Af (encF' c.f).length kf, .slice Ag (encG c.g).length kg, .slice Aw (encW19 c.inv).length kw] 33)).heap.size) (by simp))
          have HO5 := Lib.hid ((Mods.of_below (S := No) hb).own HO4.out fun _ _ hk => hk.elim)
          refine hK.out _ _ (HS9.out _ HE5.out.blw) (fun hHeld => ?_)
          clear hK K
          clear hb
          generalize V4.heap.size = tb at *
          generalize V4.alloc (.cells #[.slice Af (encF' c.f).length kf, .slice Ag (encG c.g).length kg, .slice Aw (encW19 c.inv).length kw] 33) = V5 at *
          have HT := HT5
          refine wpAnyH_ready (rs := [12]) (by kernel_rfl) (by simp) ?_
          refine AllReadyH.cons rfl (fun K hK => ?_) AllReadyH.nil
          have HI9 : Hid (Sees V5 V5.heap.size (some ⟨ib, 0, none⟩) (bts ids20)) := (HE5.out.see (some ⟨ib, 0, none⟩, 3, ids20) (by simp)).1
          go_simp
          refine (KP.out V5 (some ⟨ib, 0, none⟩) (some ⟨tb, 0, none⟩) HI9.out HT.out).mono ?_
          rintro e V6 ⟨Ap, kp, rfl, ho, hb⟩
          (try go_wp2_with fail)
          obtain ⟨hl9, hm9⟩ := own_cap20 ho
          have HE6 := Lib.hid (HE5.out.add hb (Sees.of_own ho) hl9 hm9)
          have HO6 := Lib.hid ((Mods.of_below (S := No) hb).own HO5.out fun _ _ hk => hk.elim)
          refine hK.out _ _ (HS9.out _ HE6.out.blw) (fun hHeld => ?_)
          clear hK K
          clear ho hb hl9 hm9
          refine wpAnyH_ready (rs := [13]) (by kernel_rfl) (by simp) ?_
          refine AllReadyH.cons rfl (fun K hK => ?_) AllReadyH.nil
          have hpl : (packS ids20 (parts20 c)).length ≤ 700000 := by have := HV.out.size.2.2; unfold encCt at this; simp at this; omega
          refine step_append_any _ rfl (.tmp 12) (.tmp 24) 33 rfl w.heap.size 5 i0 (.int .u8 0) 1 1 Tryz.underlying33 hi hz0 hz1 hz2 rfl (by decide) (.slice (some ⟨ob, 0, none⟩) 3 3) 3 (bts [82, 67, 1]) rfl HO6.out V6.heap.size Ap (packS ids20 (parts20 c)).length kp (bts (packS ids20 (parts20 c))) rfl (HE6.out.see (Ap, kp, packS ids20 (parts20 c)) (by simp)).1 (by rw [bts_length, Nat.mul_one]) (bts_one _) (by unfold maxLen; omega) (by omega) (Nat.le_trans HK1.out.blw.size HE6.out.blw.size) ?_
          intro vr V7 ho hg _
          (try simp only [Act.put, List.getElem_toArray, List.getElem_cons_succ, List.getElem_cons_zero, List.setIfInBounds_toArray, List.set_cons_succ, List.set_cons_zero])
          have hbf : Below w.heap.size w V7 := (HK1.out.blw.trans (HE6.out.blw.mono HK1.out.blw.size)).grown hg (Nat.le_trans HK1.out.blw.size HE6.out.blw.size) (fun k hk => by simp [Value.ownBlock] at hk; subst hk; exact HOB.out)
          replace ho : V7.ownsRow w.heap.size 5 1 vr (encCt c).length (bts (encCt c)) := by
            have e1 : 3 + (packS ids20 (parts20 c)).length = (encCt c).length := by unfold encCt; simp; omega
            have e2 : bts [82, 67, 1] ++ bts (packS ids20 (parts20 c)) = bts (encCt c) := by rw [← bts_append]; rfl
            rw [e1, e2] at ho
            exact ho
          obtain ⟨Ar, kr, rfl, _, _⟩ := own_slice ho (bts_length _)
          have HF9 := Lib.hid (And.intro ho hbf)
          refine hK.out _ _ (HS9.out _ ?hs9) (fun hHeld => ?_)
          case hs9 => exact (HE6.out.blw.grown hg HE6.out.blw.size (fun k hk => by simp [Value.ownBlock] at hk; subst hk; exact HOB2.out))
          clear hK K ho hbf hg
          refine take_at 14 2 (.slice Ar (encCt c).length kr) rfl rfl (by kernel_rfl) (by kernel_rfl) (by kernel_rfl) (fun _ _ _ h => h) (Or.inl ⟨by rfl, ?_⟩) hHeld ?_
          · intro w9 hSw
            (try dsimp only at hSw)
            go_simp
          (try simp only [Act.put, List.setIfInBounds_toArray, List.set_cons_zero, List.set_cons_succ])
          refine take_at 15 3 (.int .i64 0) rfl rfl (by kernel_rfl) (by kernel_rfl) (by kernel_rfl) (fun _ _ _ h => h) (Or.inl ⟨by rfl, ?_⟩) hHeld ?_
          · intro w9 hSw
            (try dsimp only at hSw)
            go_simp
          (try simp only [Act.put, List.setIfInBounds_toArray, List.set_cons_zero, List.set_cons_succ])
          refine wpAnyH_done (by kernel_rfl) ?_ _
          clear hHeld
          go_wp2
          go_ret2
          exact ⟨HF9.out.2, .inl ⟨HV0.out, Ar, kr, rfl, HF9.out.1⟩⟩
        · refine AllReadyH.cons rfl (fun K hK => ?_) AllReadyH.nil
          go_simp
          have hb := (Below.refl V3.heap.size V3).alloc (Nat.le_refl _) (.cells #[.slice Af (encF' c.f).length kf, .slice Ag (encG c.g).length kg, .slice Aw (encW19 c.inv).length kw] 33)
          have HE4 := Lib.hid (HE3.out.next hb)
          have HT4 := Lib.hid ((HE3.out.three (A := Af) (i := kf) (x := encF' c.f) (B := Ag) (j := kg) (y := encG c.g) (C := Aw) (k := kw) (z := encW19 c.inv) (by simp) (by simp) (by simp)).more (B' := (V3.alloc (.cells #[.slice Af (encF' c.f).length kf, .slice Ag (encG c.g).length kg, .slice Aw (encW19 c.inv).length kw] 33)).heap.size) (by simp))
          have HO4 := Lib.hid ((Mods.of_below (S := No) hb).own HO3.out fun _ _ hk => hk.elim)
          refine hK.out _ _ (HS9.out _ HE4.out.blw) (fun hHeld => ?_)
          clear hK K
          clear hb
          generalize V3.heap.size = tb at *
          generalize V3.alloc (.cells #[.slice Af (encF' c.f).length kf, .slice Ag (encG c.g).length kg, .slice Aw (encW19 c.inv).length kw] 33) = V4 at *
          have HT := HT4
          refine wpAnyH_ready (rs := [1]) (by kernel_rfl) (by simp) ?_
          refine AllReadyH.cons rfl (fun K hK => ?_) AllReadyH.nil
          go_simp
          have hb := (Below.refl V4.heap.size V4).alloc (Nat.le_refl _) (.cells #[.int .u8 1, .int .u8 2, .int .u8 3] 5)
          have hsn := lit_sees V4 #[.int .u8 1, .int .u8 2, .int .u8 3] 5 ids20 rfl
          have HE5 := Lib.hid (HE4.out.add hb (hsn.more (by simp)) (k := 3) (by decide) (by decide))
          have HO5 := Lib.hid ((Mods.of_below (S := No) hb).own HO4.out fun _ _ hk => hk.elim)
          refine hK.out _ _ (HS9.out _ HE5.out.blw) (fun hHeld => ?_)
          clear hK K
          have HTN := Lib.hid ((HT.out.below hb).more hb.size)
          clear HT
          have HT := HTN
          clear HTN
          clear hb hsn
          generalize V4.heap.size = ib at *
          generalize V4.alloc (.cells #[.int .u8 1, .int .u8 2, .int .u8 3] 5) = V5 at *
          refine wpAnyH_ready (rs := [12]) (by kernel_rfl) (by simp) ?_
          refine AllReadyH.cons rfl (fun K hK => ?_) AllReadyH.nil
          have HI9 : Hid (Sees V5 V5.heap.size (some ⟨ib, 0, none⟩) (bts ids20)) := (HE5.out.see (some ⟨ib, 0, none⟩, 3, ids20) (by simp)).1
          go_simp
          refine (KP.out V5 (some ⟨ib, 0, none⟩) (some ⟨tb, 0, none⟩) HI9.out HT.out).mono ?_
          rintro e V6 ⟨Ap, kp, rfl, ho, hb⟩
          (try go_wp2_with fail)
          obtain ⟨hl9, hm9⟩ := own_cap20 ho
          have HE6 := Lib.hid (HE5.out.add hb (Sees.of_own ho) hl9 hm9)
          have HO6 := Lib.hid ((Mods.of_below (S := No) hb).own HO5.out fun _ _ hk => hk.elim)
          refine hK.out _ _ (HS9.out _ HE6.out.blw) (fun hHeld => ?_)
          clear hK K
          clear ho hb hl9 hm9
          refine wpAnyH_ready (rs := [13]) (by kernel_rfl) (by simp) ?_
          refine AllReadyH.cons rfl (fun K hK => ?_) AllReadyH.nil
          have hpl : (packS ids20 (parts20 c)).length ≤ 700000 := by have := HV.out.size.2.2; unfold encCt at this; simp at this; omega
          refine step_append_any _ rfl (.tmp 12) (.tmp 24) 33 rfl w.heap.size 5 i0 (.int .u8 0) 1 1 Tryz.underlying33 hi hz0 hz1 hz2 rfl (by decide) (.slice (some ⟨ob, 0, none⟩) 3 3) 3 (bts [82, 67, 1]) rfl HO6.out V6.heap.size Ap (packS ids20 (parts20 c)).length kp (bts (packS ids20 (parts20 c))) rfl (HE6.out.see (Ap, kp, packS ids20 (parts20 c)) (by simp)).1 (by rw [bts_length, Nat.mul_one]) (bts_one _) (by unfold maxLen; omega) (by omega) (Nat.le_trans HK1.out.blw.size HE6.out.blw.size) ?_
          intro vr V7 ho hg _
          (try simp only [Act.put, List.getElem_toArray, List.getElem_cons_succ, List.getElem_cons_zero, List.setIfInBounds_toArray, List.set_cons_succ, List.set_cons_zero])
          have hbf : Below w.heap.size w V7 := (HK1.out.blw.trans (HE6.out.blw.mono HK1.out.blw.size)).grown hg (Nat.le_trans HK1.out.blw.size HE6.out.blw.size) (fun k hk => by simp [Value.ownBlock] at hk; subst hk; exact HOB.out)
          replace ho : V7.ownsRow w.heap.size 5 1 vr (encCt c).length (bts (encCt c)) := by
            have e1 : 3 + (packS ids20 (parts20 c)).length = (encCt c).length := by unfold encCt; simp; omega
            have e2 : bts [82, 67, 1] ++ bts (packS ids20 (parts20 c)) = bts (encCt c) := by rw [← bts_append]; rfl
            rw [e1, e2] at ho
            exact ho
          obtain ⟨Ar, kr, rfl, _, _⟩ := own_slice ho (bts_length _)
          have HF9 := Lib.hid (And.intro ho hbf)
          refine hK.out _ _ (HS9.out _ ?hs9) (fun hHeld => ?_)
          case hs9 => exact (HE6.out.blw.grown hg HE6.out.blw.size (fun k hk => by simp [Value.ownBlock] at hk; subst hk; exact HOB2.out))
          clear hK K ho hbf hg
          refine take_at 14 2 (.slice Ar (encCt c).length kr) rfl rfl (by kernel_rfl) (by kernel_rfl) (by kernel_rfl) (fun _ _ _ h => h) (Or.inl ⟨by rfl, ?_⟩) hHeld ?_
          · intro w9 hSw
            (try dsimp only at hSw)
            go_simp
          (try simp only [Act.put, List.setIfInBounds_toArray, List.set_cons_zero, List.set_cons_succ])
          refine take_at 15 3 (.int .i64 0) rfl rfl (by kernel_rfl) (by kernel_rfl) (by kernel_rfl) (fun _ _ _ h => h) (Or.inl ⟨by rfl, ?_⟩) hHeld ?_
          · intro w9 hSw
            (try dsimp only at hSw)
            go_simp
          (try simp only [Act.put, List.setIfInBounds_toArray, List.set_cons_zero, List.set_cons_succ])
          refine wpAnyH_done (by kernel_rfl) ?_ _
          clear hHeld
          go_wp2
          go_ret2
          exact ⟨HF9.out.2, .inl ⟨HV0.out, Ar, kr, rfl, HF9.out.1⟩⟩

end Go.Proofs.YtkapmfopfddmbaaGreat
