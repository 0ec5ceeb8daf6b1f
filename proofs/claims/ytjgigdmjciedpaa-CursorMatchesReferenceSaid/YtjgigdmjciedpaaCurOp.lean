/-
  The statements' own function read: one read of a cursor, chosen by a number.
-/
import Derived.Test.YtjgigdmjciedpaaCurAwake
import Derived.Test.YtjgigdmjciedpaaVarMath2
namespace Go.Proofs.Ytjgigdmjciedpaa
open Go.RowKit
set_option linter.unusedVariables false

def opT (k a b m : Int) (l : List Nat) : Nat × Nat × Nat :=
  if k = 0 then byteS l else if k = 1 then bytesS a l else if k = 2 then uintS m l else if k = 3 then getS l else if k = 4 then countS a b l else (0, 0, 0)
/-- The number that is returned. -/
def opV (k er : Int) (r : Nat × Nat × Nat) : Int := if k = 3 then uz (stepV er r) % 18446744073709551616 else stepV er r
/-- The bytes that are returned. -/
def opL (k a er : Int) (l : List Nat) : List Nat := if k = 1 then bytesL er a l else []
/-- The error afterwards. -/
def opE (k a : Int) (n i : Nat) (er : Int) (r : Nat × Nat × Nat) : Int := if k = 5 then endS n i er else if k = 6 then failS er a else stepE er r

theorem getS_max (l : List Nat) (hb : Byt l) : (getS l).1 ≤ 18446744073709551615 := by
  rcases getS_kinds l with ⟨x, n, hk⟩ | hk | hk
  · have := getS_lt hb hk
    rw [hk]
    show x ≤ _
    omega
  · rw [hk]; omega
  · rw [hk]; omega

/-- What the read leaves. -/
def OpP (w : World) (lo p : Nat) (l : List Nat) (i : Nat) (er : Int) (A : Option Addr) (c : Nat) (k a b m : Int) (e : Ending) (w' : World) : Prop :=
  ∃ A' c', e = .returned (.tuple #[.int .u64 (opV k er (opT k a b m (l.drop i))), .slice A' (opL k a er (l.drop i)).length c']) ∧ Mods (Is p) w w' ∧
    Cur w' lo p l (stepI i er (opT k a b m (l.drop i))) (opE k a l.length i er (opT k a b m (l.drop i))) A c ∧ Sees w' w'.heap.size A' (bts (opL k a er (l.drop i))) ∧ (∀ x, A' = some x → w.heap.size ≤ x.block)

theorem stepE_zero (er : Int) : stepE er (0, 0, 0) = er := by
  unfold stepE
  split
  · rename_i h; rw [h]; rfl
  · rfl
theorem stepI_zero (i : Nat) (er : Int) : stepI i er (0, 0, 0) = i := by unfold stepI; split <;> rfl
theorem stepV_zero (er : Int) (n e : Nat) : stepV er (0, n, e) = 0 := by unfold stepV; split <;> rfl
theorem bytesS_zero (a : Int) (l : List Nat) : (bytesS a l).1 = 0 := by
  unfold bytesS
  split
  · rfl
  · split <;> rfl

theorem retVS {x y : Int} {A : Option Addr} {n n' c : Nat} (h : x = y) (hn : n = n') : Ending.returned (.tuple #[.int .u64 x, .slice A n c]) = .returned (.tuple #[.int .u64 y, .slice A n' c]) := by rw [h, hn]
theorem stepV_le {er : Int} {r : Nat × Nat × Nat} {n : Nat} (h : r.1 ≤ n) : stepV er r ≤ n := by
  unfold stepV
  split
  · exact h
  · omega
theorem stepV_ok {er : Int} {r : Nat × Nat × Nat} {n : Int} (hn : 0 ≤ n) (h : r.2.2 = 0 → ((r.1 : Nat) : Int) ≤ n) : ((stepV er r : Nat) : Int) ≤ n := by
  unfold stepV
  split
  · rename_i h2; exact h h2.2
  · omega

set_option maxRecDepth 100000 in
set_option maxHeartbeats 1000000 in
theorem op_any {w : World} {lo p : Nat} {l : List Nat} {i : Nat} {er : Int} {A : Option Addr} {c : Nat} (h : Cur w lo p l i er A c) (k a b m : Int) (hsm : l.length ≤ 1000) (ha : a ≤ 9223372036854775807) (hb : b ≤ 9223372036854775807) (hm : 0 ≤ m) :
    Calls Try.prog 10 #[.pointer (some ⟨p, 0, none⟩), .agg #[.int .i64 k, .int .i64 a, .int .i64 b, .int .u64 m]] w (OpP w lo p l i er A c k a b m) := by
  have H1 := Lib.hid (h.alloc (.cells #[.int .i64 k, .int .i64 a, .int .i64 b, .int .u64 m] 31))
  have hm0 : Mods (Is p) w (w.alloc (.cells #[.int .i64 k, .int .i64 a, .int .i64 b, .int .u64 m] 31)) := (Mods.refl _ _).alloc _
  have HM := Lib.hid hm0
  have hrest := h.rest
  clear hm0 h
  by_cases k0 : k = 0
  · subst k0
    have hv : stepV er (byteS (l.drop i)) < 256 := by
      have := stepV_le (er := er) (r := byteS (l.drop i)) (n := 255) (by have := byteS_v _ hrest; omega)
      omega
    have HC := Lib.hid (byte_any H1.out)
    have HV := Lib.hid (show opV 0 er (opT 0 a b m (l.drop i)) = stepV er (byteS (l.drop i)) from rfl)
    generalize stepV er (byteS (l.drop i)) = v at hv HC HV
    go_enter Try.func10, Try.ntmps10
    go_wp2_with fail
    refine HC.out.mono ?_
    rintro e W ⟨rfl, hmm, hc⟩
    have HM2 := Lib.hid (HM.out.trans hmm)
    have HC2 := Lib.hid hc
    clear hmm hc
    go_wp2
    go_ret2
    exact ⟨none, 0, retVS HV.out.symm rfl, HM2.out, HC2.out, Sees.nil, fun _ h => by cases h⟩
  by_cases k1 : k = 1
  · subst k1
    have HC := Lib.hid (bytes_any H1.out a ha (by omega))
    have HV := Lib.hid (show opV 1 er (opT 1 a b m (l.drop i)) = 0 by
      show ((stepV er (bytesS a (l.drop i)) : Nat) : Int) = 0
      have := stepV_le (er := er) (r := bytesS a (l.drop i)) (n := 0) (by rw [bytesS_zero]; omega)
      omega)
    clear k0
    go_enter Try.func10, Try.ntmps10
    go_wp2_with fail
    refine HC.out.mono ?_
    rintro e W ⟨A2, c2, rfl, hmm, hc, ho, hfr⟩
    have HFR : Hid (∀ x, A2 = some x → w.heap.size ≤ x.block) := fun x hx => by have := hfr x hx; simp only [World.size_alloc] at this; omega
    clear hfr
    have HM2 := Lib.hid (HM.out.trans hmm)
    have HC2 := Lib.hid hc
    have HO := Lib.hid (Sees.of_own ho)
    clear hmm hc ho
    go_wp2
    go_ret2
    exact ⟨A2, c2, retVS HV.out.symm rfl, HM2.out, HC2.out, HO.out, HFR.out⟩
  by_cases k2 : k = 2
  · subst k2
    have HC := Lib.hid (uint_any H1.out m hm)
    have HV := Lib.hid (show opV 2 er (opT 2 a b m (l.drop i)) = stepV er (uintS m (l.drop i)) from rfl)
    generalize stepV er (uintS m (l.drop i)) = v at HC HV
    clear k0 k1
    go_enter Try.func10, Try.ntmps10
    go_wp2_with fail
    refine HC.out.mono ?_
    rintro e W ⟨rfl, hmm, hc⟩
    have HM2 := Lib.hid (HM.out.trans hmm)
    have HC2 := Lib.hid hc
    clear hmm hc
    go_wp2
    go_ret2
    exact ⟨none, 0, retVS HV.out.symm rfl, HM2.out, HC2.out, Sees.nil, fun _ h => by cases h⟩
  by_cases k3 : k = 3
  · subst k3
    have HC := Lib.hid (int_any H1.out (getS_max _ hrest))
    have HV := Lib.hid (show opV 3 er (opT 3 a b m (l.drop i)) = IntKind.u64.wrap (uz (stepV er (getS (l.drop i)))) by rw [IntKind.wrap_u64]; rfl)
    generalize uz (stepV er (getS (l.drop i))) = v at HC HV
    clear k0 k1 k2
    go_enter Try.func10, Try.ntmps10
    go_wp2_with fail
    refine HC.out.mono ?_
    rintro e W ⟨rfl, hmm, hc⟩
    have HM2 := Lib.hid (HM.out.trans hmm)
    have HC2 := Lib.hid hc
    clear hmm hc
    go_wp2
    go_ret2
    exact ⟨none, 0, retVS HV.out.symm rfl, HM2.out, HC2.out, Sees.nil, fun _ h => by cases h⟩
  by_cases k4 : k = 4
  · subst k4
    have hv : ((stepV er (countS a b (l.drop i)) : Nat) : Int) ≤ 9223372036854775807 := stepV_ok (by decide) (countS_v a b _ hrest ha)
    have HC := Lib.hid (count_any H1.out a b ha hb)
    have HV := Lib.hid (show opV 4 er (opT 4 a b m (l.drop i)) = stepV er (countS a b (l.drop i)) from rfl)
    generalize stepV er (countS a b (l.drop i)) = v at hv HC HV
    clear k0 k1 k2 k3
    go_enter Try.func10, Try.ntmps10
    go_wp2_with fail
    refine HC.out.mono ?_
    rintro e W ⟨rfl, hmm, hc⟩
    have HM2 := Lib.hid (HM.out.trans hmm)
    have HC2 := Lib.hid hc
    clear hmm hc
    go_wp2
    go_ret2
    exact ⟨none, 0, retVS HV.out.symm rfl, HM2.out, HC2.out, Sees.nil, fun _ h => by cases h⟩
  by_cases k5 : k = 5
  · subst k5
    have HC := Lib.hid (end_any H1.out)
    have HV := Lib.hid (show opV 5 er (opT 5 a b m (l.drop i)) = 0 by show ((stepV er (0, 0, 0) : Nat) : Int) = 0; rw [stepV_zero]; rfl)
    have HI := Lib.hid (show stepI i er (opT 5 a b m (l.drop i)) = i from stepI_zero i er)
    clear k0 k1 k2 k3 k4
    go_enter Try.func10, Try.ntmps10
    go_wp2_with fail
    refine HC.out.mono ?_
    rintro e W ⟨rfl, hmm, hc⟩
    have HM2 := Lib.hid (HM.out.trans hmm)
    have HC2 := Lib.hid hc
    clear hmm hc
    go_wp2
    go_ret2
    exact ⟨none, 0, retVS HV.out.symm rfl, HM2.out, by rw [HI.out]; exact HC2.out, Sees.nil, fun _ h => by cases h⟩
  by_cases k6 : k = 6
  · subst k6
    have HC := Lib.hid (fail_any H1.out a)
    have HV := Lib.hid (show opV 6 er (opT 6 a b m (l.drop i)) = 0 by show ((stepV er (0, 0, 0) : Nat) : Int) = 0; rw [stepV_zero]; rfl)
    have HI := Lib.hid (show stepI i er (opT 6 a b m (l.drop i)) = i from stepI_zero i er)
    clear k0 k1 k2 k3 k4 k5
    go_enter Try.func10, Try.ntmps10
    go_wp2_with fail
    refine HC.out.mono ?_
    rintro e W ⟨rfl, hmm, hc⟩
    have HM2 := Lib.hid (HM.out.trans hmm)
    have HC2 := Lib.hid hc
    clear hmm hc
    go_wp2
    go_ret2
    exact ⟨none, 0, retVS HV.out.symm rfl, HM2.out, by rw [HI.out]; exact HC2.out, Sees.nil, fun _ h => by cases h⟩
  have hT : opT k a b m (l.drop i) = (0, 0, 0) := by unfold opT; rw [if_neg k0, if_neg k1, if_neg k2, if_neg k3, if_neg k4]
  have HV := Lib.hid (show opV k er (opT k a b m (l.drop i)) = 0 by unfold opV; rw [if_neg k3, hT, stepV_zero]; rfl)
  have HI := Lib.hid (show stepI i er (opT k a b m (l.drop i)) = i by rw [hT, stepI_zero])
  have HE := Lib.hid (show opE k a l.length i er (opT k a b m (l.drop i)) = er by unfold opE; rw [if_neg k5, if_neg k6, hT, stepE_zero])
  have HL := Lib.hid (show opL k a er (l.drop i) = [] from if_neg k1)
  have b0 : (k == 0) = false := by simp [k0]
  have b1 : (k == 1) = false := by simp [k1]
  have b2 : (k == 2) = false := by simp [k2]
  have b3 : (k == 3) = false := by simp [k3]
  have b4 : (k == 4) = false := by simp [k4]
  have b5 : (k == 5) = false := by simp [k5]
  have b6 : (k == 6) = false := by simp [k6]
  clear k0 k1 k2 k3 k4 k5 k6 hT
  go_enter Try.func10, Try.ntmps10
  go_wp2
  go_ret2
  exact ⟨none, 0, retVS HV.out.symm (by rw [HL.out]; rfl), HM.out, by rw [HI.out, HE.out]; exact H1.out, by rw [HL.out]; exact Sees.nil, fun _ h => by cases h⟩

end Go.Proofs.Ytjgigdmjciedpaa
