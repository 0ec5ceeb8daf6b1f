/-
  The fixed examples that every statement of layer 6 checks first: they come out true.
-/
import Derived.Test.YtahddhnfgonpmaaAluEval
namespace Go.Proofs.Ytahddhnfgonpmaa
open Go.RowKit

theorem lit_in (n : Int) (h1 : -9223372036854775808 ≤ n) (h2 : n ≤ 9223372036854775807) : InI n := ⟨h1, h2⟩

set_option maxRecDepth 100000 in
theorem is_any (op a b want : Int) (t : Bool) (w : World) (ha : InI a) (hb : InI b) (ho : evo op b = true) (ht : (ev op a b 0 == want) = t) :
    Calls Try.prog 16 #[.int .i64 op, .int .i64 a, .int .i64 b, .int .i64 want] w fun e w' => e = .returned (.bool t) ∧ Below w.heap.size w w' := by
  have HC := Lib.hid (eval_at op a b 0 _ _ w ha hb rfl ho)
  obtain ⟨v, hv⟩ : ∃ v, v = ev op a b 0 := ⟨_, rfl⟩
  rw [← hv] at HC ht
  clear ha hb ho hv
  have HT := Lib.hid ht
  clear ht
  go_enter Try.func16, Try.ntmps16
  go_wp2_with fail
  refine HC.out.mono ?_
  rintro e w' ⟨rfl, hbl⟩
  have HB := Lib.hid hbl
  clear hbl
  go_wp2
  go_ret
  exact ⟨by rw [← HT.out]; rfl, HB.out⟩
theorem is_at (op a b want : Int) (w : World) (ha : InI a) (hb : InI b) (ho : evo op b = true) (ht : ev op a b 0 = want) :
    Calls Try.prog 16 #[.int .i64 op, .int .i64 a, .int .i64 b, .int .i64 want] w fun e w' => e = .returned (.bool true) ∧ Below w.heap.size w w' :=
  is_any op a b want true w ha hb ho (beq_iff_eq.2 ht)

set_option maxRecDepth 100000 in
set_option maxHeartbeats 1000000 in
theorem awake_any (w : World) : Calls Try.prog 8 #[] w fun e w' => e = .returned (.bool true) ∧ Below w.heap.size w w' := by
  have hst := Below.refl w.heap.size w
  go_enter Try.func8, Try.ntmps8
  go_wp2_with fail
  refine (eval_at 8 1 0 0 0 false _ (lit_in 1 (by decide) (by decide)) (lit_in 0 (by decide) (by decide)) rfl rfl).mono ?_
  rintro e w1 ⟨rfl, hb⟩
  replace hst := hst.trans (hb.mono hst.size); clear hb
  go_wp2_with fail
  refine (eval_at 17 1 1 1 0 false _ (lit_in 1 (by decide) (by decide)) (lit_in 1 (by decide) (by decide)) rfl rfl).mono ?_
  rintro e w2 ⟨rfl, hb⟩
  replace hst := hst.trans (hb.mono hst.size); clear hb
  go_wp2_with fail
  refine (is_at 8 (-7) 2 (-3) _ (lit_in (-7) (by decide) (by decide)) (lit_in 2 (by decide) (by decide)) (by decide +kernel) (by decide +kernel)).mono ?_
  rintro e w3 ⟨rfl, hb⟩
  replace hst := hst.trans (hb.mono hst.size); clear hb
  go_wp2_with fail
  refine (is_at 9 (-7) 2 (-1) _ (lit_in (-7) (by decide) (by decide)) (lit_in 2 (by decide) (by decide)) (by decide +kernel) (by decide +kernel)).mono ?_
  rintro e w4 ⟨rfl, hb⟩
  replace hst := hst.trans (hb.mono hst.size); clear hb
  go_wp2_with fail
  refine (is_at 13 1 65 2 _ (lit_in 1 (by decide) (by decide)) (lit_in 65 (by decide) (by decide)) (by decide +kernel) (by decide +kernel)).mono ?_
  rintro e w5 ⟨rfl, hb⟩
  replace hst := hst.trans (hb.mono hst.size); clear hb
  go_wp2_with fail
  refine (is_at 14 (-8) 1 (-4) _ (lit_in (-8) (by decide) (by decide)) (lit_in 1 (by decide) (by decide)) (by decide +kernel) (by decide +kernel)).mono ?_
  rintro e w6 ⟨rfl, hb⟩
  replace hst := hst.trans (hb.mono hst.size); clear hb
  go_wp2_with fail
  refine (is_at 8 (-9223372036854775808) (-1) (-9223372036854775808) _ (lit_in (-9223372036854775808) (by decide) (by decide)) (lit_in (-1) (by decide) (by decide)) (by decide +kernel) (by decide +kernel)).mono ?_
  rintro e w7 ⟨rfl, hb⟩
  replace hst := hst.trans (hb.mono hst.size); clear hb
  go_wp2_with fail
  refine (traps_any 9 true _ (by decide)).mono ?_
  rintro e w8 ⟨rfl, hb⟩
  replace hst := hst.trans (hb.mono hst.size); clear hb
  go_wp2_with fail
  refine (traps_any 5 false _ (by decide)).mono ?_
  rintro e w9 ⟨rfl, hb⟩
  replace hst := hst.trans (hb.mono hst.size); clear hb
  go_wp2_with fail
  refine (pure_any 5 true _ (by decide)).mono ?_
  rintro e w10 ⟨rfl, hb⟩
  replace hst := hst.trans (hb.mono hst.size); clear hb
  go_wp2_with fail
  refine (pure_any 18 false _ (by decide)).mono ?_
  rintro e w11 ⟨rfl, hb⟩
  replace hst := hst.trans (hb.mono hst.size); clear hb
  go_wp2_with fail
  go_ret
  exact ⟨rfl, hst⟩

end Go.Proofs.Ytahddhnfgonpmaa
