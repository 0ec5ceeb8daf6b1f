/-
  The walk of the statement on the bounds.
-/
import Derived.Test.YtkapmfopfddmbaaDcAwk
namespace Go.Proofs.Ytkapmfopfddmbaa
open Go.RowKit Go.Deep
set_option linter.unusedVariables false
set_option linter.unusedSimpArgs false

set_option maxRecDepth 100000 in
set_option maxHeartbeats 4000000 in
theorem DecodecostLinear_walk (a0 : Option Addr) (len0 cap0 : Nat) (z0 : List Int) (w : World) (w0 : IsRow .u8 w a0 len0 cap0 z0) :
    Calls Try.prog 4 #[.slice a0 len0 cap0] w fun e w' => e = .returned (.bool true) ∧ Below w.heap.size w w' := by
  have AW : Hid (∀ W, Calls Try.prog 7 #[] W fun e w' => e = .returned (.bool true) ∧ Below W.heap.size W w') := fun W => awake21_any W
  obtain ⟨l, rfl, hby, hs, hlc, hcm⟩ := w0.bytes
  clear w0
  have HS := Lib.hid hs
  have HBY := Lib.hid hby
  obtain ⟨n, hn⟩ : ∃ n, l.length = n := ⟨_, rfl⟩
  have HN := Lib.hid hn
  rw [hn] at hlc ⊢
  clear hs hby hn
  go_enter Try.func4, Try.ntmps4
  go_wp2_with fail
  refine (AW.out _).mono ?_
  rintro e W1 ⟨rfl, hb1⟩
  by_cases hlong : 3000 < n
  · go_wp2_with fail
    refine (AW.out _).mono ?_
    rintro e W9 ⟨rfl, hb9⟩
    go_wp2
    go_ret
    exact ⟨rfl, hb1.trans (hb9.mono hb1.size)⟩
  have C1 : Hid (Calls Try.prog 8 #[.slice a0 n cap0] W1 (OfP W1 l)) := by
    have := pof21_any a0 l cap0 W1 ((HS.out.below hb1).more hb1.size) HBY.out (by rw [HN.out]; omega) (by rw [HN.out]; exact hlc) hcm
    rw [HN.out] at this
    exact this
  have hL := costE_le HBY.out
  rw [HN.out] at hL
  obtain ⟨⟨b, i, p, y⟩, hc⟩ : ∃ c, costE l = c := ⟨_, rfl⟩
  rw [hc] at hL
  unfold OfP at C1
  rw [hc] at C1
  unfold LinC at hL
  dsimp only at hL C1
  obtain ⟨h1, h2, h3, h4, h5, h6⟩ := hL
  have HB1 := Lib.hid hb1
  clear hc hb1 HS HBY HN hcm
  go_wp2_with fail
  refine C1.out.mono ?_
  rintro e W2 ⟨rfl, hb⟩
  have HB2 := Lib.hid (HB1.out.trans (hb.mono HB1.out.size))
  clear C1 HB1 hb
  go_upto_region 4 with fail
  have HB3 := Lib.hid (HB2.out.alloc HB2.out.size (.cells #[.int .i64 b, .int .i64 i, .int .i64 p, .int .i64 (y : Int)] 25))
  have HC3 := Lib.hid (Row.new W2 25 #[.int .i64 b, .int .i64 i, .int .i64 p, .int .i64 (y : Int)])
  clear HB2
  generalize (W2.alloc (.cells #[.int .i64 b, .int .i64 i, .int .i64 p, .int .i64 (y : Int)] 25)) = W3 at *
  obtain ⟨x, hx⟩ : ∃ x, W2.heap.size = x := ⟨_, rfl⟩
  rw [hx] at HC3 ⊢
  clear hx
  have q0 := HC3.out.k0; have q1 := HC3.out.k1; have q2 := HC3.out.k2; have q3 := HC3.out.k3
  have CT := Lib.hid (ptotal21_any b i p y W3 (by omega) (by omega) (by omega))
  go_wp2_with fail
  refine CT.out.mono ?_
  rintro e W4 ⟨rfl, hb⟩
  have HB4 := Lib.hid (HB3.out.trans (hb.mono HB3.out.size))
  clear CT HB3 HC3 hb q0 q1 q2 q3
  go_wp2
  go_ret
  exact ⟨rfl, HB4.out⟩

end Go.Proofs.Ytkapmfopfddmbaa
