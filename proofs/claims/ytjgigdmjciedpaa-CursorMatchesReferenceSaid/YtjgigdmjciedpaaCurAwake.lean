/-
  The fixed examples that every statement of layer 2 checks first: they come out true, and nothing that was there turns.
-/
import Derived.Test.YtjgigdmjciedpaaWri
import Derived.Test.YtjgigdmjciedpaaVarSame
namespace Go.Proofs.Ytjgigdmjciedpaa
open Go.RowKit
set_option linter.unusedVariables false

theorem lit_sees (w : World) (cs : Array Value) (e : TypeId) (l : List Nat) (h : cs.toList = bts l) : Sees (w.alloc (.cells cs e)) (w.heap.size + 1) (some ⟨w.heap.size, 0, none⟩) (bts l) := fun _ => by
  refine ⟨w.heap.size, 0, rfl, by omega, fun i u hu => ?_⟩
  rw [cell_of_row _ w.heap.size (0 + i) cs e (0, 0) (heap_alloc_new w _), ← hu, ← h, Nat.zero_add]
  simp
theorem below_mods {B : Nat} {S : Nat → Prop} {w a b : World} (h : Below B w a) (m : Mods S a b) (hS : ∀ k, S k → B ≤ k) (hB : B ≤ w.heap.size) : Below B w b :=
  h.trans (m.below (Nat.le_trans hB h.size) hS)
theorem same_lit (l : List Nat) (n : Nat) (A A' : Option Addr) (c c' : Nat) (B : Nat) (w : World) (hs : Sees w B A (bts l)) (hs' : Sees w B A' (bts l)) (hn : l.length = n) (hm : l.length ≤ 100) :
    Calls Try.prog 12 #[.slice A n c, .slice A' n c'] w fun e w' => e = .returned (.bool true) ∧ ∃ n, w.drewN n = w' := by
  subst hn
  have := same_any B A A' l l c c' w hs hs' (by unfold maxLen; omega) (by unfold maxLen; omega)
  rw [sameB_self] at this
  exact this

/-- New over a literal. -/
theorem new_lit (l : List Nat) (n0 n1 : Nat) (cs : Array Value) (w : World) (g : Nat) (hgs : g = w.heap.size) (hl : l.length = n0) (hc : cs.toList = bts l) (hb : ∀ x ∈ l, x < 256) (hm : l.length ≤ 100) :
    Calls Try.prog 9 #[.slice (some ⟨g, 0, none⟩) n0 n1] (w.alloc (.cells cs 5)) fun e w' => ∃ p A' c', e = .returned (.pointer (some ⟨p, 0, none⟩)) ∧ w.heap.size < p ∧ Cur w' (w.heap.size + 1) p l 0 0 A' c' ∧ Mods No w w' := by
  subst hl
  subst hgs
  refine (new_any (some ⟨w.heap.size, 0, none⟩) l (w.heap.size + 1) n1 (w.alloc (.cells cs 5)) (lit_sees w cs _ l hc) (by simp) hb (by omega)).mono ?_
  rintro e w' ⟨p, A', c', rfl, h1, h2, h3⟩
  simp only [World.size_alloc] at h1 h2
  exact ⟨p, A', c', rfl, by omega, h2, ((Mods.refl No w).alloc _).trans (Mods.of_below h3)⟩

section
variable {w : World} {lo p : Nat} {l : List Nat} {i : Nat} {er : Int} {A : Option Addr} {c : Nat}
theorem uint_lit (h : Cur w lo p l i er A c) (most : Int) (h0 : 0 ≤ most) (v i' : Nat) (e' : Int) (hv : stepV er (uintS most (l.drop i)) = v) (hi : stepI i er (uintS most (l.drop i)) = i') (he : stepE er (uintS most (l.drop i)) = e') :
    Calls Try.prog 22 #[.pointer (some ⟨p, 0, none⟩), .int .u64 most] w fun e w' => e = .returned (.int .u64 v) ∧ Mods (Is p) w w' ∧ Cur w' lo p l i' e' A c := by
  have := uint_any h most h0
  unfold After at this
  rwa [hv, hi, he] at this
theorem byte_lit (h : Cur w lo p l i er A c) (v i' : Nat) (e' : Int) (hv : stepV er (byteS (l.drop i)) = v) (hi : stepI i er (byteS (l.drop i)) = i') (he : stepE er (byteS (l.drop i)) = e') :
    Calls Try.prog 23 #[.pointer (some ⟨p, 0, none⟩)] w fun e w' => e = .returned (.int .u8 v) ∧ Mods (Is p) w w' ∧ Cur w' lo p l i' e' A c := by
  have := byte_any h
  unfold After at this
  rwa [hv, hi, he] at this
theorem count_lit (h : Cur w lo p l i er A c) (most size : Int) (hm : most ≤ 9223372036854775807) (hs : size ≤ 9223372036854775807) (v i' : Nat) (e' : Int) (hv : stepV er (countS most size (l.drop i)) = v) (hi : stepI i er (countS most size (l.drop i)) = i') (he : stepE er (countS most size (l.drop i)) = e') :
    Calls Try.prog 21 #[.pointer (some ⟨p, 0, none⟩), .int .i64 most, .int .i64 size] w fun e w' => e = .returned (.int .i64 v) ∧ Mods (Is p) w w' ∧ Cur w' lo p l i' e' A c := by
  have := count_any h most size hm hs
  unfold After at this
  rwa [hv, hi, he] at this
end

set_option maxRecDepth 100000 in
set_option maxHeartbeats 400000 in
theorem byte_nil (w : World) :
    Calls Try.prog 23 #[.pointer none] w fun e w' => e = .returned (.int .u8 0) ∧ w = w' := by
  have hr : Calls Try.prog 34 #[.pointer none, .func (.func 38) #[] #[]] w fun e w' => e = .returned (.int .u64 0) ∧ w = w' := by
    go_enter Try.func34, Try.ntmps34
    go_wp2_with fail
    refine (err_nil w).mono ?_
    rintro e W ⟨rfl, rfl⟩
    go_wp2
    go_ret
    exact ⟨rfl, rfl⟩
  have HR := Lib.hid hr
  clear hr
  go_enter Try.func23, Try.ntmps23
  go_wp2_with fail
  refine HR.out.mono ?_
  rintro e W ⟨rfl, rfl⟩
  go_wp2
  go_ret
  exact ⟨rfl, rfl⟩

set_option maxRecDepth 100000 in
set_option maxHeartbeats 1000000 in
theorem awake_any (w : World) : Calls Try.prog 8 #[] w fun e w' => e = .returned (.bool true) ∧ Below w.heap.size w w' := by
  go_enter Try.func8, Try.ntmps8
  go_wp2_with fail
  refine (new_lit [172, 2, 5] _ _ _ w _ rfl rfl rfl (by decide) (by decide)).mono ?_
  rintro e W1 ⟨p1, A1, c1, rfl, hp1, hc1, hm1⟩
  have HC1 := Lib.hid hc1
  have HM1 := Lib.hid hm1
  clear hc1 hm1
  go_wp2_with fail
  refine (new_lit [172, 2, 5] _ _ _ W1 _ rfl rfl rfl (by decide) (by decide)).mono ?_
  rintro e W2 ⟨p2, A2, c2, rfl, hp2, hc2, hm2⟩
  have HC2 := Lib.hid hc2
  have HC1' := Lib.hid (HC1.out.mods hm2 fun _ h => h.elim)
  have HM2 := Lib.hid (HM1.out.trans hm2)
  have hp12 := HC1.out.row.lt
  clear hc2 hm2 HC1 HM1
  go_wp2_with fail
  refine (new_lit [2, 0, 0, 0] _ _ _ W2 _ rfl rfl rfl (by decide) (by decide)).mono ?_
  rintro e W3 ⟨p3, A3, c3, rfl, hp3, hc3, hm3⟩
  have HC3 := Lib.hid hc3
  have HC1 := Lib.hid (HC1'.out.mods hm3 fun _ h => h.elim)
  have HC2' := Lib.hid (HC2.out.mods hm3 fun _ h => h.elim)
  have HM3 := Lib.hid (HM2.out.trans hm3)
  have hp23 := HC2.out.row.lt
  clear hc3 hm3 HC2 HM2 HC1'
  go_wp2_with fail
  refine (uint_lit HC1.out 300 (by decide) 300 2 0 rfl rfl rfl).mono ?_
  rintro e W4 ⟨rfl, hm4, hc1⟩
  have HC1' := Lib.hid hc1
  have HM4 := Lib.hid (HM3.out.then hm4 (fun k hk => by unfold Is at hk; omega))
  have HC2 := Lib.hid (HC2'.out.mods hm4 fun k hk => by unfold Is at hk; omega)
  have HC3' := Lib.hid (HC3.out.mods hm4 fun k hk => by unfold Is at hk; omega)
  have hp34 := HC3.out.row.lt
  clear hc1 hm4 HC1 HC2' HC3 HM3
  go_wp2_with fail
  refine (byte_lit HC1'.out 5 3 0 rfl rfl rfl).mono ?_
  rintro e W5 ⟨rfl, hm5, hc1⟩
  have HC1 := Lib.hid hc1
  have HM5 := Lib.hid (HM4.out.then hm5 (fun k hk => by unfold Is at hk; omega))
  have HC2' := Lib.hid (HC2.out.mods hm5 fun k hk => by unfold Is at hk; omega)
  have HC3 := Lib.hid (HC3'.out.mods hm5 fun k hk => by unfold Is at hk; omega)
  clear hc1 hm5 HC1' HC2 HC3' HM4
  go_wp2_with fail
  refine (byte_lit HC1.out 0 3 1 rfl rfl rfl).mono ?_
  rintro e W6 ⟨rfl, hm6, hc1⟩
  have HC1' := Lib.hid hc1
  have HM6 := Lib.hid (HM5.out.then hm6 (fun k hk => by unfold Is at hk; omega))
  have HC2 := Lib.hid (HC2'.out.mods hm6 fun k hk => by unfold Is at hk; omega)
  have HC3' := Lib.hid (HC3.out.mods hm6 fun k hk => by unfold Is at hk; omega)
  clear hc1 hm6 HC1 HC2' HC3 HM5
  go_wp2_with fail
  refine (uint_lit HC2.out 299 (by decide) 0 0 6 rfl rfl rfl).mono ?_
  rintro e W7 ⟨rfl, hm7, hc2⟩
  have HC2' := Lib.hid hc2
  have HM7 := Lib.hid (HM6.out.then hm7 (fun k hk => by unfold Is at hk; omega))
  have HC1 := Lib.hid (HC1'.out.mods hm7 fun k hk => by unfold Is at hk; omega)
  have HC3 := Lib.hid (HC3'.out.mods hm7 fun k hk => by unfold Is at hk; omega)
  clear hc2 hm7 HC2 HC1' HC3' HM6
  go_wp2_with fail
  refine (count_lit HC3.out 10 2 (by decide) (by decide) 0 0 1 rfl rfl rfl).mono ?_
  rintro e W8 ⟨rfl, hm8, hc3⟩
  have HC3' := Lib.hid hc3
  have HM8 := Lib.hid (HM7.out.then hm8 (fun k hk => by unfold Is at hk; omega))
  have HC1' := Lib.hid (HC1.out.mods hm8 fun k hk => by unfold Is at hk; omega)
  have HC2 := Lib.hid (HC2'.out.mods hm8 fun k hk => by unfold Is at hk; omega)
  have hz8 := HC3'.out.row.lt
  have hp8 := HM8.out.size
  clear hc3 hm8 HC3 HC1 HC2' HM7
  go_wp2_with fail
  refine (wint_any (Wri.new W8) (-1) (by unfold InI; decide) (by decide) (by simp)).mono ?_
  rintro e W9 ⟨rfl, ⟨v9, hw9⟩, hm9⟩
  have HW9 := Lib.hid (show Wri W9 W8.heap.size W9.heap.size v9 [1] from hw9)
  have hma := ((Mods.refl (From W8.heap.size) W8).alloc (.cells #[.slice none 0 0] 45)).trans hm9
  have HM9 := Lib.hid (HM8.out.then hma (fun k hk => by unfold From at hk; omega))
  have HC1 := Lib.hid (HC1'.out.mods hma fun k hk => by unfold From at hk; omega)
  have HC2' := Lib.hid (HC2.out.mods hma fun k hk => by unfold From at hk; omega)
  have HC3 := Lib.hid (HC3'.out.mods hma fun k hk => by unfold From at hk; omega)
  clear hw9 hm9 hma HC1' HC2 HC3' HM8
  go_wp2_with fail
  refine (wuint_any HW9.out 300 (by decide) (by decide) (by decide) (Nat.le_refl _)).mono ?_
  rintro e W10 ⟨rfl, ⟨v10, hw10⟩, hm10⟩
  have HW10 := Lib.hid (show Wri W10 W8.heap.size W10.heap.size v10 [1, 172, 2] from hw10)
  have HM10 := Lib.hid (HM9.out.then hm10 (fun k hk => by unfold From at hk; omega))
  have HC1' := Lib.hid (HC1.out.mods hm10 fun k hk => by unfold From at hk; omega)
  have HC2 := Lib.hid (HC2'.out.mods hm10 fun k hk => by unfold From at hk; omega)
  have HC3' := Lib.hid (HC3.out.mods hm10 fun k hk => by unfold From at hk; omega)
  clear hw10 hm10 HC1 HC2' HC3 HM9 HW9
  go_wp2_with fail
  refine (err_any HC1'.out).mono ?_
  rintro e W ⟨rfl, rfl⟩
  go_wp2_with fail
  refine (err_any HC2.out).mono ?_
  rintro e W ⟨rfl, rfl⟩
  go_wp2_with fail
  refine (err_any HC3'.out).mono ?_
  rintro e W ⟨rfl, rfl⟩
  go_wp2_with fail
  refine (err_nil _).mono ?_
  rintro e W ⟨rfl, rfl⟩
  go_wp2_with fail
  refine (byte_nil _).mono ?_
  rintro e W ⟨rfl, rfl⟩
  go_wp2_with fail
  refine (at_any HC1'.out).mono ?_
  rintro e W ⟨rfl, rfl⟩
  have HL := Lib.hid (left_any HC1'.out)
  rw [leftS_bad _ _ (by decide)] at HL
  go_wp2_with fail
  refine HL.out.mono ?_
  rintro e W ⟨rfl, n, rfl⟩
  have HO := Lib.hid (out_any (HW10.out.drewN n) (by decide))
  go_wp2_with fail
  refine HO.out.mono ?_
  rintro e W11 ⟨A', c', rfl, ho, hb⟩
  have Hs := Lib.hid (Sees.of_own ho)
  have HM11 := Lib.hid (HM10.out.trans (Mods.of_below hb).unN)
  clear ho hb HO HL HC1' HC2 HC3' HW10 HM10
  go_wp2_with fail
  refine (same_lit [1, 172, 2] 3 _ _ _ _ (W11.heap.size + 1) _ ((Hs.out.alloc (Nat.le_refl _) _).more (by omega)) (lit_sees _ _ _ _ rfl) rfl (by decide)).mono ?_
  rintro e W12 ⟨rfl, n12, rfl⟩
  go_wp2
  go_ret
  exact ⟨rfl, (((HM11.out).alloc _).drewN n12).below (Nat.le_refl _) fun k hk => hk.elim⟩

end Go.Proofs.Ytjgigdmjciedpaa
