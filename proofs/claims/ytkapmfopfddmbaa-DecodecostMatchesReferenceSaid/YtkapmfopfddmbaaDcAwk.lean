/-
  The fixed examples of layer 21.
-/
import Derived.Test.YtkapmfopfddmbaaDcProg
namespace Go.Proofs.Ytkapmfopfddmbaa
open Go.RowKit
set_option linter.unusedVariables false
set_option linter.unusedSimpArgs false

def ex21 : List Nat := [82, 67, 1, 1, 6, 0, 1, 1, 0, 3, 0, 2, 7, 0, 1, 0, 1, 0, 3, 0, 3, 3, 1, 0, 0]

theorem ex21_a : costE ex21 = ⟨2, 0, 1, 16⟩ := by kernel_rfl

theorem ex21_b : costE (ex21.take 2) = ⟨0, 0, 0, 0⟩ := by kernel_rfl

theorem ex21_c : costE (ex21.take 11) = ⟨0, 0, 0, 6⟩ := by kernel_rfl

theorem ex21_byt : Byt ex21 := by unfold Byt; decide

set_option maxRecDepth 100000 in
set_option maxHeartbeats 2000000 in
theorem awake21_any (w : World) : Calls Try.prog 7 #[] w fun e w' => e = .returned (.bool true) ∧ Below w.heap.size w w' := by
  have HR := Lib.hid (Row.new w 5 #[.int .u8 82, .int .u8 67, .int .u8 1, .int .u8 1, .int .u8 6, .int .u8 0, .int .u8 1, .int .u8 1, .int .u8 0, .int .u8 3, .int .u8 0, .int .u8 2, .int .u8 7, .int .u8 0, .int .u8 1, .int .u8 0, .int .u8 1, .int .u8 0, .int .u8 3, .int .u8 0, .int .u8 3, .int .u8 3, .int .u8 1, .int .u8 0, .int .u8 0])
  have HB1 := Lib.hid ((Below.refl w.heap.size w).alloc (Nat.le_refl _) (.cells #[.int .u8 82, .int .u8 67, .int .u8 1, .int .u8 1, .int .u8 6, .int .u8 0, .int .u8 1, .int .u8 1, .int .u8 0, .int .u8 3, .int .u8 0, .int .u8 2, .int .u8 7, .int .u8 0, .int .u8 1, .int .u8 0, .int .u8 1, .int .u8 0, .int .u8 3, .int .u8 0, .int .u8 3, .int .u8 3, .int .u8 1, .int .u8 0, .int .u8 0] 5))
  go_enter Try.func7, Try.ntmps7
  go_upto_region 2 with fail
  obtain ⟨g, hg⟩ : ∃ g, w.heap.size = g := ⟨_, rfl⟩
  rw [hg] at HR ⊢
  have hgw : w.heap.size ≤ g := Nat.le_of_eq hg
  clear hg
  generalize (w.alloc (.cells #[.int .u8 82, .int .u8 67, .int .u8 1, .int .u8 1, .int .u8 6, .int .u8 0, .int .u8 1, .int .u8 1, .int .u8 0, .int .u8 3, .int .u8 0, .int .u8 2, .int .u8 7, .int .u8 0, .int .u8 1, .int .u8 0, .int .u8 1, .int .u8 0, .int .u8 3, .int .u8 0, .int .u8 3, .int .u8 3, .int .u8 1, .int .u8 0, .int .u8 0] 5)) = W1 at *
  have HS : Hid (∀ (W : World) (n : Nat), Row W g 5 #[.int .u8 82, .int .u8 67, .int .u8 1, .int .u8 1, .int .u8 6, .int .u8 0, .int .u8 1, .int .u8 1, .int .u8 0, .int .u8 3, .int .u8 0, .int .u8 2, .int .u8 7, .int .u8 0, .int .u8 1, .int .u8 0, .int .u8 1, .int .u8 0, .int .u8 3, .int .u8 0, .int .u8 3, .int .u8 3, .int .u8 1, .int .u8 0, .int .u8 0] → Sees W W.heap.size (some ⟨g, 0, none⟩) (bts (ex21.take n))) := fun W n h => by
    have h1 : Sees W W.heap.size (some ⟨g, 0, none⟩) (bts ex21) := fun _ => ⟨g, 0, rfl, h.lt, fun i u hu => by
      rw [h.cell (0 + i), ← hu, Nat.zero_add, List.getElem?_toArray]
      rfl⟩
    have h2 := h1.take (k := n)
    rwa [show (bts ex21).take n = bts (ex21.take n) from by simp [bts, List.map_take]] at h2
  have C1 : Hid (Calls Try.prog 8 #[.slice (some ⟨g, 0, none⟩) 25 25] W1 (OfP W1 ex21)) := pof21_any (some ⟨g, 0, none⟩) ex21 25 W1 (HS.out W1 25 HR.out) ex21_byt (by decide) (by decide) (by decide)
  have C2 : Hid (∀ W, Row W g 5 #[.int .u8 82, .int .u8 67, .int .u8 1, .int .u8 1, .int .u8 6, .int .u8 0, .int .u8 1, .int .u8 1, .int .u8 0, .int .u8 3, .int .u8 0, .int .u8 2, .int .u8 7, .int .u8 0, .int .u8 1, .int .u8 0, .int .u8 1, .int .u8 0, .int .u8 3, .int .u8 0, .int .u8 3, .int .u8 3, .int .u8 1, .int .u8 0, .int .u8 0] → Calls Try.prog 8 #[.slice (some ⟨g, 0, none⟩) 2 25] W (OfP W (ex21.take 2))) := fun W h => pof21_any (some ⟨g, 0, none⟩) (ex21.take 2) 25 W (HS.out W 2 h) (fun x hx => ex21_byt x (List.mem_of_mem_take hx)) (by decide) (by decide) (by decide)
  have C3 : Hid (∀ W, Row W g 5 #[.int .u8 82, .int .u8 67, .int .u8 1, .int .u8 1, .int .u8 6, .int .u8 0, .int .u8 1, .int .u8 1, .int .u8 0, .int .u8 3, .int .u8 0, .int .u8 2, .int .u8 7, .int .u8 0, .int .u8 1, .int .u8 0, .int .u8 1, .int .u8 0, .int .u8 3, .int .u8 0, .int .u8 3, .int .u8 3, .int .u8 1, .int .u8 0, .int .u8 0] → Calls Try.prog 8 #[.slice (some ⟨g, 0, none⟩) 11 25] W (OfP W (ex21.take 11))) := fun W h => pof21_any (some ⟨g, 0, none⟩) (ex21.take 11) 25 W (HS.out W 11 h) (fun x hx => ex21_byt x (List.mem_of_mem_take hx)) (by decide) (by decide) (by decide)
  unfold OfP at C1 C2 C3
  rw [ex21_a] at C1
  rw [ex21_b] at C2
  rw [ex21_c] at C3
  dsimp only at C1 C2 C3
  clear HS
  go_wp2_with fail
  refine C1.out.mono ?_
  rintro e W2 ⟨rfl, hb⟩
  have HR2 := Lib.hid (HR.out.below hb HR.out.lt)
  have HB2 := Lib.hid (HB1.out.trans (hb.mono HB1.out.size))
  clear C1 HR HB1 hb
  go_upto_region 3 with fail
  have HR3 := Lib.hid (HR2.out.alloc (.cells #[.int .i64 2, .int .i64 0, .int .i64 1, .int .i64 16] 25))
  have HB3 := Lib.hid (HB2.out.alloc HB2.out.size (.cells #[.int .i64 2, .int .i64 0, .int .i64 1, .int .i64 16] 25))
  have HC3 := Lib.hid (Row.new W2 25 #[.int .i64 2, .int .i64 0, .int .i64 1, .int .i64 16])
  clear HR2 HB2
  generalize (W2.alloc (.cells #[.int .i64 2, .int .i64 0, .int .i64 1, .int .i64 16] 25)) = W3 at *
  obtain ⟨x, hx⟩ : ∃ x, W2.heap.size = x := ⟨_, rfl⟩
  rw [hx] at HC3 ⊢
  clear hx
  have q0 := HC3.out.k0; have q1 := HC3.out.k1; have q2 := HC3.out.k2; have q3 := HC3.out.k3
  have CT := Lib.hid (ptotal21_any 2 0 1 16 W3 (by omega) (by omega) (by omega))
  go_wp2_with fail
  refine CT.out.mono ?_
  rintro e W4 ⟨rfl, hb⟩
  have HR4 := Lib.hid (HR3.out.below hb HR3.out.lt)
  have HB4 := Lib.hid (HB3.out.trans (hb.mono HB3.out.size))
  clear CT HR3 HB3 HC3 hb q0 q1 q2 q3
  go_wp2_with fail
  refine (C2.out _ HR4.out).mono ?_
  rintro e W5 ⟨rfl, hb⟩
  have HR5 := Lib.hid (HR4.out.below hb HR4.out.lt)
  have HB5 := Lib.hid (HB4.out.trans (hb.mono HB4.out.size))
  clear C2 HR4 HB4 hb
  go_wp2_with fail
  refine (C3.out _ HR5.out).mono ?_
  rintro e W6 ⟨rfl, hb⟩
  have HB6 := Lib.hid (HB5.out.trans (hb.mono HB5.out.size))
  clear C3 HR5 HB5 hb
  go_wp2
  go_ret
  exact ⟨rfl, HB6.out⟩

end Go.Proofs.Ytkapmfopfddmbaa
