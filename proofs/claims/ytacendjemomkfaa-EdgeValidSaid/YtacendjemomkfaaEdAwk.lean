/-
  The statements' examples: awake returns true.
-/
import Derived.Test.YtacendjemomkfaaEdAll
namespace Go.Proofs.Ytacendjemomkfaa
open Go.RowKit
set_option linter.unusedVariables false

theorem edEx1 : entR (entP [((0 : Int), (1 : Int)), (1, 1)] 1) = .tuple #[.agg #[.int .i64 1, .int .i64 1], .int .i64 23] := by kernel_rfl
theorem edEx2 : entR (entP [((0 : Int), (1 : Int)), (1, 0), (1, 3)] 1) = .tuple #[.agg #[.int .i64 0, .int .i64 0], .int .i64 0] := by kernel_rfl
theorem edEx3 : impR (misP [((2 : Int), (4 : Int))] []) = .tuple #[.agg #[.int .i64 2, .int .i64 4], .int .i64 22] := by kernel_rfl
theorem edEx4 : validE [] 1 1 1 1 = 14 := by kernel_rfl
theorem edEx5 : validE [[((1 : Int), (0 : Int)), (0, 0)]] 1 2 1 1 = 13 := by kernel_rfl

theorem pinit_at (v l a : Int) (b : Bool) (w : World) (h1 : 0 ≤ v) (h2 : 0 ≤ l) (h3 : l ≤ 9223372036854775807) (h4 : v ≤ 9223372036854775807) (hb : initP (v, l) a = b) :
    Calls Try.prog 12 #[.agg #[.int .i64 v, .int .i64 l], .int .i64 a] w fun e w' => e = .returned (.bool b) ∧ Grew w w' := hb ▸ pinit_any v l a w h1 h2 h3 h4

theorem ed2 {x1 x2 y1 y2 : Int} (h : ((Lit.int .i64 x1).wf = true ∧ (Lit.int .i64 x2).wf = true) ∧ ((Lit.int .i64 y1).wf = true ∧ (Lit.int .i64 y2).wf = true)) : ∀ p ∈ [(x1, x2), (y1, y2)], PrWf p := fun p hp => by
  rcases List.mem_cons.1 hp with rfl | hp
  · exact h.1
  · rcases List.mem_cons.1 hp with rfl | hp
    · exact h.2
    · cases hp

theorem ed3 {x1 x2 y1 y2 z1 z2 : Int} (h : ((Lit.int .i64 x1).wf = true ∧ (Lit.int .i64 x2).wf = true) ∧ ((Lit.int .i64 y1).wf = true ∧ (Lit.int .i64 y2).wf = true) ∧ ((Lit.int .i64 z1).wf = true ∧ (Lit.int .i64 z2).wf = true)) : ∀ p ∈ [(x1, x2), (y1, y2), (z1, z2)], PrWf p := fun p hp => by
  rcases List.mem_cons.1 hp with rfl | hp
  · exact h.1
  · exact ed2 ⟨h.2.1, h.2.2⟩ p hp

theorem seesPP_two (w : World) (x1 x2 y1 y2 : Int) : SeesPP ((w.alloc (.cells #[.int .i64 x1, .int .i64 x2, .int .i64 y1, .int .i64 y2] 25)).alloc (.cells #[.slice (some ⟨w.heap.size, 0, none⟩) 2 2] 33)) (w.heap.size + 2) (some ⟨w.heap.size + 1, 0, none⟩) [[(x1, x2), (y1, y2)]] := by
  have h1 := sees_new w #[.int .i64 x1, .int .i64 x2, .int .i64 y1, .int .i64 y2] 25
  have h2 := sees_new (w.alloc (.cells #[.int .i64 x1, .int .i64 x2, .int .i64 y1, .int .i64 y2] 25)) #[.slice (some ⟨w.heap.size, 0, none⟩) 2 2] 33
  rw [World.size_alloc] at h2
  refine ⟨[.slice (some ⟨w.heap.size, 0, none⟩) 2 2], h2, ?_⟩
  exact (CellsP.nil _ _).snoc (x := [(x1, x2), (y1, y2)]) (c := 2) (Nat.le_refl _) (by decide) ((h1.alloc (by simp) _).more (by omega))

set_option maxRecDepth 100000 in
set_option maxHeartbeats 8000000 in
theorem awake_any (w : World) : Calls Try.prog 8 #[] w fun e w' => e = .returned (.bool true) ∧ Below w.heap.size w w' := by
  have C1 := Lib.hid (pentry_ls 1 (LS.two w 0 1 1 1) (ed2 (by decide)) (by decide))
  rw [edEx1] at C1
  go_enter Try.func8, Try.ntmps8
  go_wp2_with fail
  refine C1.out.mono ?_
  rintro e W1 ⟨rfl, hb⟩
  have HB1 : Hid (Below w.heap.size w W1) := ((Below.refl w.heap.size w).alloc (Nat.le_refl _) _).trans (hb.mono (by simp))
  clear hb C1
  have hp := Row.new W1 25 #[.int .i64 1, .int .i64 1]
  have C2 := pentry_ls 1 (LS.three (W1.alloc (prObj 1 1)) 0 1 1 0 1 3) (ed3 (by decide)) (by decide)
  have e1 : (W1.alloc (prObj 1 1)).heap.size = W1.heap.size + 1 := by simp
  rw [edEx2, e1] at C2
  have C2 := Lib.hid C2
  go_wp2_with fail
  refine C2.out.mono ?_
  have HBA := Lib.hid ((HB1.out.alloc HB1.out.size (prObj 1 1)).alloc (by have := HB1.out.size; simp; omega) (.cells #[.int .i64 0, .int .i64 1, .int .i64 1, .int .i64 0, .int .i64 1, .int .i64 3] 25))
  have hpA := hp.alloc (.cells #[.int .i64 0, .int .i64 1, .int .i64 1, .int .i64 0, .int .i64 1, .int .i64 3] 25)
  clear C2 e1 hp HB1
  generalize hpb : W1.heap.size = pb at *
  clear hpb
  generalize ((W1.alloc (.cells #[.int .i64 1, .int .i64 1] 25)).alloc (.cells #[.int .i64 0, .int .i64 1, .int .i64 1, .int .i64 0, .int .i64 1, .int .i64 3] 25)) = WA at *
  rintro e W2 ⟨rfl, hb⟩
  have HB2 := Lib.hid (HBA.out.trans (hb.mono HBA.out.size))
  have HP2 := Lib.hid (hpA.below hb hpA.lt)
  clear hb HBA hpA
  have C3 := pimplies_ls ((LS.nil (W2.alloc (prObj 0 0))).below ((Below.refl (W2.alloc (prObj 0 0)).heap.size (W2.alloc (prObj 0 0))).alloc (Nat.le_refl _) (prObj 2 4))) (LS.one (W2.alloc (prObj 0 0)) 2 4) (by simp [Srt]) (by simp [Srt])
  have e1 : (W2.alloc (prObj 0 0)).heap.size = W2.heap.size + 1 := by simp
  rw [edEx3, e1] at C3
  have C3 := Lib.hid C3
  go_wp2_with fail
  refine C3.out.mono ?_
  have HBA := Lib.hid ((HB2.out.alloc HB2.out.size (prObj 0 0)).alloc (by have := HB2.out.size; simp; omega) (prObj 2 4))
  have hpA := (HP2.out.alloc (prObj 0 0)).alloc (prObj 2 4)
  clear C3 e1 HP2 HB2
  generalize W2.heap.size = fb at *
  generalize ((W2.alloc (.cells #[.int .i64 0, .int .i64 0] 25)).alloc (.cells #[.int .i64 2, .int .i64 4] 25)) = WB at *
  rintro e W3 ⟨rfl, hb⟩
  have HB3 := Lib.hid (HBA.out.trans (hb.mono HBA.out.size))
  have hp3 := hpA.below hb hpA.lt
  clear hb HBA hpA
  go_upto_region 4 with fail
  have HP := Lib.hid (hp3.alloc (prObj 2 4))
  have HQ := Lib.hid (Row.new W3 25 #[.int .i64 2, .int .i64 4])
  have HB := Lib.hid (HB3.out.alloc HB3.out.size (prObj 2 4))
  clear hp3 HB3
  generalize W3.heap.size = qb at *
  generalize (W3.alloc (.cells #[.int .i64 2, .int .i64 4] 25)) = W4 at *
  go_wp2_with fail
  refine (pinit_at 0 1 1 true _ (by decide) (by decide) (by decide) (by decide) rfl).mono ?_
  rintro e W9 ⟨rfl, hG⟩
  have HB9 := Lib.hid (HB.out.trans (hG.below.mono HB.out.size))
  have HP9 := Lib.hid (hG.row HP.out)
  have HQ9 := Lib.hid (hG.row HQ.out)
  clear hG HB HP HQ
  have HB := HB9
  have HP := HP9
  have HQ := HQ9
  clear HB9 HP9 HQ9
  go_wp2_with fail
  refine (pinit_at 1 3 1 true _ (by decide) (by decide) (by decide) (by decide) rfl).mono ?_
  rintro e W9 ⟨rfl, hG⟩
  have HB9 := Lib.hid (HB.out.trans (hG.below.mono HB.out.size))
  have HP9 := Lib.hid (hG.row HP.out)
  have HQ9 := Lib.hid (hG.row HQ.out)
  clear hG HB HP HQ
  have HB := HB9
  have HP := HP9
  have HQ := HQ9
  clear HB9 HP9 HQ9
  go_wp2_with fail
  refine (pinit_at 1 0 1 true _ (by decide) (by decide) (by decide) (by decide) rfl).mono ?_
  rintro e W9 ⟨rfl, hG⟩
  have HB9 := Lib.hid (HB.out.trans (hG.below.mono HB.out.size))
  have HP9 := Lib.hid (hG.row HP.out)
  have HQ9 := Lib.hid (hG.row HQ.out)
  clear hG HB HP HQ
  have HB := HB9
  have HP := HP9
  have HQ := HQ9
  clear HB9 HP9 HQ9
  go_wp2_with fail
  refine (pinit_at 0 0 1 false _ (by decide) (by decide) (by decide) (by decide) rfl).mono ?_
  rintro e W9 ⟨rfl, hG⟩
  have HB9 := Lib.hid (HB.out.trans (hG.below.mono HB.out.size))
  have HP9 := Lib.hid (hG.row HP.out)
  have HQ9 := Lib.hid (hG.row HQ.out)
  clear hG HB HP HQ
  have HB := HB9
  have HP := HP9
  have HQ := HQ9
  clear HB9 HP9 HQ9
  go_wp2_with fail
  refine (pinit_at 0 3 1 false _ (by decide) (by decide) (by decide) (by decide) rfl).mono ?_
  rintro e W9 ⟨rfl, hG⟩
  have HB9 := Lib.hid (HB.out.trans (hG.below.mono HB.out.size))
  have HP9 := Lib.hid (hG.row HP.out)
  have HQ9 := Lib.hid (hG.row HQ.out)
  clear hG HB HP HQ
  have HB := HB9
  have HP := HP9
  have HQ := HQ9
  clear HB9 HP9 HQ9
  go_wp2_with fail
  refine (pinit_at 1 1 1 false _ (by decide) (by decide) (by decide) (by decide) rfl).mono ?_
  rintro e W9 ⟨rfl, hG⟩
  have HB9 := Lib.hid (HB.out.trans (hG.below.mono HB.out.size))
  have HP9 := Lib.hid (hG.row HP.out)
  have HQ9 := Lib.hid (hG.row HQ.out)
  clear hG HB HP HQ
  have HB := HB9
  have HP := HP9
  have HQ := HQ9
  clear HB9 HP9 HQ9
  have p0 := HP.out.cell 0
  have p1 := HP.out.cell 1
  have q0 := HQ.out.cell 0
  have q1 := HQ.out.cell 1
  simp only [List.getElem?_toArray, List.getElem?_cons_zero, List.getElem?_cons_succ] at p0 p1 q0 q1
  go_wp2_with fail
  have C4 := pvalid_any 0 none [] 0 1 1 1 1 W9 SeesPP.nil (Nat.zero_le _) (by simp) (by simp) (by simp)
  rw [edEx4] at C4
  refine C4.mono ?_
  rintro e V ⟨rfl, hb⟩
  have HBV := Lib.hid (HB.out.trans (hb.mono HB.out.size))
  clear hb C4 C3 C2 HP HQ p0 p1 q0 q1 HB
  go_wp2_with fail
  have hs5 := seesPP_two V 1 0 0 0
  have HB5 := Lib.hid ((HBV.out.alloc HBV.out.size (.cells #[.int .i64 1, .int .i64 0, .int .i64 0, .int .i64 0] 25)).alloc (by have := HBV.out.size; simp; omega) (.cells #[.slice (some ⟨V.heap.size, 0, none⟩) 2 2] 33))
  have C5 := pvalid_any _ _ [[((1 : Int), (0 : Int)), (0, 0)]] 1 1 2 1 1 _ hs5 (by simp) (by simp) (by simp) (fun x hx => by rw [List.mem_singleton.1 hx]; exact ed2 (by decide))
  rw [edEx5] at C5
  refine C5.mono ?_
  rintro e V2 ⟨rfl, hb⟩
  have HB6 := Lib.hid (HB5.out.trans (hb.mono HB5.out.size))
  clear hb C5 hs5 HB5
  go_wp2
  go_ret
  exact ⟨rfl, HB6.out⟩

end Go.Proofs.Ytacendjemomkfaa
