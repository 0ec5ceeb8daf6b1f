/-
  The fixed examples that every statement of layer 17 checks first: they come out true, and nothing that was there turns.
-/
import Derived.Test.YtacmgfndmolnfaaIcProg
import Derived.Test.YtacmgfndmolnfaaCurAwake
namespace Go.Proofs.Ytacmgfndmolnfaa
open Go.RowKit
set_option linter.unusedVariables false

set_option maxRecDepth 100000 in
set_option maxHeartbeats 1000000 in
theorem awake17_any (w : World) : Calls Try.prog 7 #[] w fun e w' => e = .returned (.bool true) ∧ Below w.heap.size w w' := by
  go_enter Try.func7, Try.ntmps7
  go_wp2_with fail
  refine (picputi_any (Wri.new w) (by decide) (by simp) (m := ⟨5, 0, 1, 2, 0, 0, 0⟩) rfl rfl (by decide) (by unfold InI; decide) (fun _ => by decide) (fun _ => by decide) (fun _ => by decide)).mono ?_
  rintro e W1 ⟨rfl, ⟨v1, hw1⟩, hm1⟩
  have HW1 := Lib.hid (show Wri W1 w.heap.size W1.heap.size v1 [5, 0, 1, 2] from hw1)
  have HM1 := Lib.hid (((Mods.refl (From w.heap.size) w).alloc (.cells #[.slice none 0 0] 52)).trans hm1)
  clear hw1 hm1
  go_wp2_with fail
  refine (picputm_any HW1.out (by decide) (Nat.le_refl _) (m := ⟨1, 3, 0, 0, -1, 0, 0⟩) (by decide) (by unfold InI; decide) (fun _ => by decide) (fun _ => by decide) (fun _ => by decide) (fun _ => by decide) (fun _ => by decide)).mono ?_
  rintro e W2 ⟨rfl, ⟨v2, hw2⟩, hm2⟩
  have HW2 := Lib.hid (show Wri W2 w.heap.size W2.heap.size v2 [5, 0, 1, 2, 1, 3, 1] from hw2)
  have HM2 := Lib.hid (HM1.out.trans hm2)
  clear hw2 hm2 HW1 HM1
  go_wp2_with fail
  refine (picputt_any HW2.out (by decide) (Nat.le_refl _) (t := ⟨1, 0, 200, 0⟩) (by decide) (fun _ => by decide) (fun _ => by decide) (fun _ => by decide)).mono ?_
  rintro e W3 ⟨rfl, ⟨v3, hw3⟩, hm3⟩
  have HW3 := Lib.hid (show Wri W3 w.heap.size W3.heap.size v3 [5, 0, 1, 2, 1, 3, 1, 1, 200, 1] from hw3)
  have HM3 := Lib.hid (HM2.out.trans hm3)
  clear hw3 hm3 HW2 HM2
  go_wp2_with fail
  refine (out_any HW3.out (by decide)).mono ?_
  rintro e W4 ⟨A4, c4, rfl, ho, hb⟩
  have HW4 := Lib.hid (HW3.out.mods (S := No) (Mods.of_below hb) fun _ h => h.elim)
  have HM4 := Lib.hid (HM3.out.trans (Mods.of_below hb))
  have Hs := Lib.hid (Sees.of_own ho)
  have hz := hb.size
  clear ho hb HW3 HM3
  go_wp2_with fail
  refine (new_any _ [5, 0, 1, 2, 1, 3, 1, 1, 200, 1] _ _ _ Hs.out (Nat.le_refl _) (by unfold Byt; decide) (by decide)).mono ?_
  rintro e W5 ⟨p, A, c, rfl, hp, hc, hb⟩
  have HW5 := Lib.hid (HW4.out.mods (S := No) (Mods.of_below hb) fun _ h => h.elim)
  have HM5 := Lib.hid (HM4.out.trans (Mods.of_below hb))
  have HC5 := Lib.hid hc
  have HP := Lib.hid hp
  have HM4z := Lib.hid HM4.out.size
  have HZ := Lib.hid hz
  clear hz hc hb hp Hs HW4 HM4
  go_wp2_with fail
  refine (picinstr_any HC5.out 3 (by decide) (m := ⟨5, 0, 1, 2, 0, 0, 0⟩) (t := ⟨[1, 3, 1, 1, 200, 1], 0⟩) rfl).mono ?_
  rintro e W6 ⟨rfl, hm6, i6, hc6, hd6⟩
  have HM6 := Lib.hid (((HM5.out.then hm6 (fun k hk => by unfold Is at hk; have := HP.out; have := HM4z.out; unfold From; omega))).alloc (.cells #[.int .i64 5, .int .i64 0, .int .i64 1, .int .i64 2, .int .i64 0] 30))
  have HW6 := Lib.hid (HW5.out.mods (hm6.alloc (.cells #[.int .i64 5, .int .i64 0, .int .i64 1, .int .i64 2, .int .i64 0] 30)) fun k hk => by unfold Is at hk; have := HP.out; have := HZ.out; omega)
  have HC6 := Lib.hid (hc6.alloc (.cells #[.int .i64 5, .int .i64 0, .int .i64 1, .int .i64 2, .int .i64 0] 30))
  have R6 := Lib.hid (Row.new W6 30 #[.int .i64 5, .int .i64 0, .int .i64 1, .int .i64 2, .int .i64 0])
  have P6 := Lib.hid hc6.row.lt
  have D6 := Lib.hid (hd6 rfl)
  clear hm6 hc6 hd6 HM5 HW5 HC5
  go_wp2_with fail
  refine (picmach_any HC6.out 4 0 (by decide) (by decide) (m := ⟨1, 3, 0, 0, -1, 0, 0⟩) (t := ⟨[1, 200, 1], 0⟩) (by rw [D6.out]; rfl)).mono ?_
  rintro e W7 ⟨rfl, hm7, i7, hc7, hd7⟩
  have hx7 := hm7.size
  have hx7' := World.size_alloc W6 (.cells #[.int .i64 5, .int .i64 0, .int .i64 1, .int .i64 2, .int .i64 0] 30)
  have HM7 := Lib.hid ((HM6.out.then hm7 (fun k hk => by unfold Is at hk; have := HP.out; have := HM4z.out; unfold From; omega)).alloc (.cells #[.int .i64 1, .int .i64 3, .int .i64 0, .int .i64 0, .int .i64 (-1), .int .i64 0, .int .i64 0] 34))
  have HW7 := Lib.hid (HW6.out.mods (hm7.alloc (.cells #[.int .i64 1, .int .i64 3, .int .i64 0, .int .i64 0, .int .i64 (-1), .int .i64 0, .int .i64 0] 34)) fun k hk => by unfold Is at hk; have := HP.out; have := HZ.out; omega)
  have HC7 := Lib.hid (hc7.alloc (.cells #[.int .i64 1, .int .i64 3, .int .i64 0, .int .i64 0, .int .i64 (-1), .int .i64 0, .int .i64 0] 34))
  have S7 := Lib.hid ((R6.out.mods hm7 fun hk => by unfold Is at hk; have := P6.out; omega).alloc (.cells #[.int .i64 1, .int .i64 3, .int .i64 0, .int .i64 0, .int .i64 (-1), .int .i64 0, .int .i64 0] 34))
  have R7 := Lib.hid (Row.new W7 34 #[.int .i64 1, .int .i64 3, .int .i64 0, .int .i64 0, .int .i64 (-1), .int .i64 0, .int .i64 0])
  have P7 := Lib.hid (show W6.heap.size < W7.heap.size by omega)
  have D7 := Lib.hid (hd7 rfl)
  clear hm7 hc7 hd7 hx7 hx7' HM6 HW6 HC6 R6 D6
  go_wp2_with fail
  refine (picterm_any HC7.out 0 201 (by decide) (by decide) (m := ⟨1, 0, 200, 0⟩) (t := ⟨[], 0⟩) (by rw [D7.out]; rfl)).mono ?_
  rintro e W8 ⟨rfl, hm8, i8, hc8, hd8⟩
  have hx8 := hm8.size
  have hx8' := World.size_alloc W7 (.cells #[.int .i64 1, .int .i64 3, .int .i64 0, .int .i64 0, .int .i64 (-1), .int .i64 0, .int .i64 0] 34)
  have HM8 := Lib.hid ((HM7.out.then hm8 (fun k hk => by unfold Is at hk; have := HP.out; have := HM4z.out; unfold From; omega)).alloc (.cells #[.int .i64 1, .int .i64 0, .int .i64 200, .int .i64 0] 37))
  have HW8 := Lib.hid (HW7.out.mods (hm8.alloc (.cells #[.int .i64 1, .int .i64 0, .int .i64 200, .int .i64 0] 37)) fun k hk => by unfold Is at hk; have := HP.out; have := HZ.out; omega)
  have HC8 := Lib.hid (hc8.alloc (.cells #[.int .i64 1, .int .i64 0, .int .i64 200, .int .i64 0] 37))
  have S8 := Lib.hid ((S7.out.mods hm8 fun hk => by unfold Is at hk; have := P6.out; omega).alloc (.cells #[.int .i64 1, .int .i64 0, .int .i64 200, .int .i64 0] 37))
  have T8 := Lib.hid ((R7.out.mods hm8 fun hk => by unfold Is at hk; have := P6.out; have := P7.out; omega).alloc (.cells #[.int .i64 1, .int .i64 0, .int .i64 200, .int .i64 0] 37))
  have R8 := Lib.hid (Row.new W8 37 #[.int .i64 1, .int .i64 0, .int .i64 200, .int .i64 0])
  have P8 := Lib.hid (show W7.heap.size < W8.heap.size by omega)
  have D8 := Lib.hid (hd8 rfl)
  clear hm8 hc8 hd8 hx8 hx8' HM7 HW7 HC7 R7 S7 D7
  go_wp2_with fail
  refine (out_any HW8.out (by decide)).mono ?_
  rintro e W9 ⟨A9, c9, rfl, ho, hb⟩
  have HM9 := Lib.hid (HM8.out.trans (Mods.of_below hb))
  have HC9 := Lib.hid (HC8.out.mods (S := No) (Mods.of_below hb) fun _ h => h.elim)
  have S9 := Lib.hid (S8.out.below hb S8.out.lt)
  have T9 := Lib.hid (T8.out.below hb T8.out.lt)
  have U9 := Lib.hid (R8.out.below hb R8.out.lt)
  have Hs := Lib.hid (Sees.of_own ho)
  have HL := Lib.hid (show 10 = i8 by have h := congrArg List.length D8.out; rw [List.length_drop] at h; have := HC8.out.le; simp only [List.length_cons, List.length_nil] at h this; omega)
  clear ho hb HM8 HW8 HC8 S8 T8 R8 D8
  obtain rfl := HL.out
  go_wp2_with fail
  refine (same_lit [5, 0, 1, 2, 1, 3, 1, 1, 200, 1] 10 _ _ _ _ (W9.heap.size + 1) _ ((Hs.out.alloc (Nat.le_refl _) _).more (by omega)) (lit_sees _ _ _ _ rfl) rfl (by decide)).mono ?_
  rintro e W10 ⟨rfl, n10, h10⟩
  have HM10 : Hid (Mods _ _ W10) := Lib.hid (h10 ▸ (HM9.out.alloc _).drewN n10)
  have HC10 : Hid (Cur W10 _ p _ 10 0 A c) := Lib.hid (h10 ▸ (HC9.out.alloc _).drewN n10)
  have S10 : Row W10 _ _ _ := h10 ▸ (S9.out.alloc _).drewN n10
  have T10 : Row W10 _ _ _ := h10 ▸ (T9.out.alloc _).drewN n10
  have U10 : Row W10 _ _ _ := h10 ▸ (U9.out.alloc _).drewN n10
  have s0 := S10.cell 0; have s1 := S10.cell 1; have s2 := S10.cell 2; have s3 := S10.cell 3; have s4 := S10.cell 4
  have t0 := T10.cell 0; have t1 := T10.cell 1; have t2 := T10.cell 2; have t3 := T10.cell 3; have t4 := T10.cell 4; have t5 := T10.cell 5; have t6 := T10.cell 6
  have u0 := U10.cell 0; have u1 := U10.cell 1; have u2 := U10.cell 2; have u3 := U10.cell 3
  simp only [List.getElem?_toArray, List.getElem?_cons_zero, List.getElem?_cons_succ] at s0 s1 s2 s3 s4 t0 t1 t2 t3 t4 t5 t6 u0 u1 u2 u3
  clear S9 T9 U9 HM9 HC9 S10 T10 U10 Hs h10
  have HLf := Lib.hid (left_any HC10.out)
  rw [show leftS [5, 0, 1, 2, 1, 3, 1, 1, 200, 1].length 10 0 = 0 from rfl] at HLf
  go_wp2_with fail
  refine (err_any HC10.out).mono ?_
  rintro e W ⟨rfl, rfl⟩
  go_wp2_with fail
  refine HLf.out.mono ?_
  rintro e W ⟨rfl, n, rfl⟩
  go_wp2
  go_ret
  exact ⟨rfl, (HM10.out.drewN n).below (Nat.le_refl _) fun k hk => hk⟩

end Go.Proofs.Ytacmgfndmolnfaa
