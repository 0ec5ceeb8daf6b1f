/-
  The walk of the statement on the reference.
-/
import Derived.Test.YtkapmfopfddmbaaDcAwk
import Derived.Test.YtkapmfopfddmbaaDcRef
import Derived.Deep.RegionHeld3
namespace Go.Proofs.Ytkapmfopfddmbaa
open Go.RowKit Go.Deep
set_option linter.unusedVariables false
set_option linter.unusedSimpArgs false

set_option maxRecDepth 100000 in
set_option maxHeartbeats 8000000 in
theorem DecodecostMatchesReference_walk (a0 : Option Addr) (len0 cap0 : Nat) (z0 : List Int) (w : World) (w0 : IsRow .u8 w a0 len0 cap0 z0) :
    Calls Try.prog 3 #[.slice a0 len0 cap0] w fun e w' => e = .returned (.bool true) ∧ Below w.heap.size w w' := by
  have AW : Hid (∀ W, Calls Try.prog 7 #[] W fun e w' => e = .returned (.bool true) ∧ Below W.heap.size W w') := fun W => awake21_any W
  obtain ⟨l, rfl, hby, hs, hlc, hcm⟩ := w0.bytes
  clear w0
  have HS := Lib.hid hs
  have HBY := Lib.hid hby
  obtain ⟨n, hn⟩ : ∃ n, l.length = n := ⟨_, rfl⟩
  have HN := Lib.hid hn
  rw [hn] at hlc ⊢
  clear hs hby hn
  go_enter Try.func3, Try.ntmps3
  go_wp2_with fail
  refine (AW.out _).mono ?_
  rintro e W1 ⟨rfl, hb1⟩
  by_cases hlong : 3000 < n
  · go_wp2_with fail
    refine (AW.out _).mono ?_
    rintro e W9 ⟨rfl, hb9⟩
    go_wp2
    go_ret
    exact ⟨rfl, hb1.trans (hb9.mono hb1.size)⟩
  have C1 : Hid (∀ W, Below w.heap.size w W → Calls Try.prog 8 #[.slice a0 n cap0] W (OfP W l)) := fun W hb => by
    have := pof21_any a0 l cap0 W ((HS.out.below hb).more hb.size) HBY.out (by rw [HN.out]; omega) (by rw [HN.out]; exact hlc) hcm
    rw [HN.out] at this
    exact this
  have C2 : Hid (∀ W, Below w.heap.size w W → Calls Try.prog 9 #[.slice a0 n cap0] W (ROfP W l)) := fun W hb => by
    have := rof21_any a0 l cap0 W ((HS.out.below hb).more hb.size) HBY.out (by rw [HN.out]; omega) (by rw [HN.out]; exact hlc) hcm
    rw [HN.out] at this
    exact this
  have hL := costE_le HBY.out
  rw [HN.out] at hL
  obtain ⟨⟨b, i, p, y⟩, hc⟩ : ∃ c, costE l = c := ⟨_, rfl⟩
  rw [hc] at hL
  unfold OfP at C1
  unfold ROfP at C2
  rw [hc] at C1 C2
  unfold LinC at hL
  dsimp only at hL C1 C2
  obtain ⟨h1, h2, h3, h4, h5, h6⟩ := hL
  have HB1 := Lib.hid hb1
  clear hc hb1 HS HBY HN hcm
  go_wp2_with fail
  refine (C1.out _ HB1.out).mono ?_
  rintro e W2 ⟨rfl, hb⟩
  have HB2 := Lib.hid (HB1.out.trans (hb.mono HB1.out.size))
  clear C1 HB1 hb
  go_upto_region 4 with fail
  have HB3 := Lib.hid (HB2.out.alloc HB2.out.size (.cells #[.int .i64 b, .int .i64 i, .int .i64 p, .int .i64 (y : Int)] 25))
  have HC3 := Lib.hid (Row.new W2 25 #[.int .i64 b, .int .i64 i, .int .i64 p, .int .i64 (y : Int)])
  clear HB2
  generalize (W2.alloc (.cells #[.int .i64 b, .int .i64 i, .int .i64 p, .int .i64 (y : Int)] 25)) = W3 at *
  obtain ⟨x, hx⟩ : ∃ x, W2.heap.size = x := ⟨_, rfl⟩
  rw [hx] at HC3 ⊢
  clear hx
  go_wp2_with fail
  refine (C2.out _ HB3.out).mono ?_
  rintro e W4 ⟨rfl, hb⟩
  have HB4 := Lib.hid (HB3.out.trans (hb.mono HB3.out.size))
  have HC4 := Lib.hid (HC3.out.below hb HC3.out.lt)
  clear C2 HB3 HC3 hb
  go_upto_region 5 with fail
  have HB5 := Lib.hid (HB4.out.alloc HB4.out.size (.cells #[.int .i64 b, .int .i64 i, .int .i64 p, .int .i64 (y : Int)] 27))
  have HC5 := Lib.hid (HC4.out.alloc (.cells #[.int .i64 b, .int .i64 i, .int .i64 p, .int .i64 (y : Int)] 27))
  have HD5 := Lib.hid (Row.new W4 27 #[.int .i64 b, .int .i64 i, .int .i64 p, .int .i64 (y : Int)])
  clear HB4 HC4
  generalize (W4.alloc (.cells #[.int .i64 b, .int .i64 i, .int .i64 p, .int .i64 (y : Int)] 27)) = W5 at *
  obtain ⟨z, hz⟩ : ∃ z, W4.heap.size = z := ⟨_, rfl⟩
  rw [hz] at HD5 ⊢
  clear hz
  have CS : Hid (∀ V, Below W5.heap.size W5 V → V.cell? ⟨x, 0, none⟩ = some (.int .i64 b) ∧ V.cell? ⟨x, 1, none⟩ = some (.int .i64 i) ∧ V.cell? ⟨x, 2, none⟩ = some (.int .i64 p) ∧ V.cell? ⟨x, 3, none⟩ = some (.int .i64 (y : Int)) ∧ V.cell? ⟨z, 0, none⟩ = some (.int .i64 b) ∧ V.cell? ⟨z, 1, none⟩ = some (.int .i64 i) ∧ V.cell? ⟨z, 2, none⟩ = some (.int .i64 p) ∧ V.cell? ⟨z, 3, none⟩ = some (.int .i64 (y : Int))) := fun V hb => by
    have h := HC5.out.below hb HC5.out.lt
    have k := HD5.out.below hb HD5.out.lt
    exact ⟨h.k0, h.k1, h.k2, h.k3, k.k0, k.k1, k.k2, k.k3⟩
  have HX := Lib.hid (CS.out W5 (Below.refl _ _))
  have CT : Hid (∀ w0, (∃ m, w0 = W5.drewN m) → Calls Try.prog 10 #[.agg #[.int .i64 b, .int .i64 i, .int .i64 p, .int .i64 (y : Int)]] w0 fun e w' => e = .returned (.int .i64 (b + i + p)) ∧ Below W5.heap.size W5 w') := fun w0 ⟨m, hm⟩ => by
    subst hm
    refine (ptotal21_any b i p y (W5.drewN m) (by omega) (by omega) (by omega)).mono ?_
    rintro e w' ⟨rfl, hb⟩
    exact ⟨rfl, below_unN hb (Nat.le_refl _)⟩
  clear HC5 HD5
  go_region_held3 (fun w' => w'.cell? ⟨x, 0, none⟩ = some (.int .i64 b) ∧ w'.cell? ⟨x, 1, none⟩ = some (.int .i64 i) ∧ w'.cell? ⟨x, 2, none⟩ = some (.int .i64 p) ∧ w'.cell? ⟨x, 3, none⟩ = some (.int .i64 (y : Int)) ∧ w'.cell? ⟨z, 0, none⟩ = some (.int .i64 b) ∧ w'.cell? ⟨z, 1, none⟩ = some (.int .i64 i) ∧ w'.cell? ⟨z, 2, none⟩ = some (.int .i64 p) ∧ w'.cell? ⟨z, 3, none⟩ = some (.int .i64 (y : Int))) (first | exact HX.out | exact hXa) (first | (go_at_call 10; go_must ((refine (CT.out _ (by first | exact ⟨1, rfl⟩ | exact ⟨0, rfl⟩ | exact ⟨_, rfl⟩)).mono ?_); rintro e Wa ⟨rfl, hb⟩; have HBa := Lib.hid hb; have hXa := CS.out Wa hb; clear hb)))
  go_wp2
  go_ret
  have e1 : IntKind.i64.wrap (b + i) = b + i := by rw [IntKind.wrap_i64]; omega
  have e2 : IntKind.i64.wrap (b + i + p) = b + i + p := by rw [IntKind.wrap_i64]; omega
  refine ⟨?_, HB5.out.trans (HBa.out.mono HB5.out.size)⟩
  show Ending.returned (Value.bool (b + i + p == IntKind.i64.wrap (IntKind.i64.wrap (b + i) + p))) = _
  rw [e1, e2]
  simp

end Go.Proofs.Ytkapmfopfddmbaa
