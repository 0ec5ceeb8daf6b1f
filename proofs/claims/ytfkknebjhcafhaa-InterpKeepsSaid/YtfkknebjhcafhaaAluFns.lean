/-
  The functions of the program's table, and the search in the table.
-/
import Derived.Test.YtfkknebjhcafhaaAluMath
namespace Go.Proofs.Ytfkknebjhcafhaa
open Go.RowKit

theorem c1_any (a b : Int) (w : World) (ha : InI a) (hb : InI b) :
    Calls Try.prog 42 #[.int .i64 a, .int .i64 b] w fun e w' => e = .returned (.int .i64 (wrap64 (a + b))) ∧ w = w' := by
  obtain ⟨a0, a1⟩ := ha
  obtain ⟨b0, b1⟩ := hb
  go_enter Try.func42, Try.ntmps42
  go_wp2
  go_ret
  exact ⟨rfl, rfl⟩

theorem c2_any (a b : Int) (w : World) (ha : InI a) (hb : InI b) :
    Calls Try.prog 43 #[.int .i64 a, .int .i64 b] w fun e w' => e = .returned (.int .i64 (wrap64 (a - b))) ∧ w = w' := by
  obtain ⟨a0, a1⟩ := ha
  obtain ⟨b0, b1⟩ := hb
  go_enter Try.func43, Try.ntmps43
  go_wp2
  go_ret
  exact ⟨rfl, rfl⟩

theorem c3_any (a b : Int) (w : World) (ha : InI a) (hb : InI b) :
    Calls Try.prog 44 #[.int .i64 a, .int .i64 b] w fun e w' => e = .returned (.int .i64 (wrap64 (a * b))) ∧ w = w' := by
  obtain ⟨a0, a1⟩ := ha
  obtain ⟨b0, b1⟩ := hb
  go_enter Try.func44, Try.ntmps44
  go_wp2
  go_ret
  exact ⟨rfl, rfl⟩

theorem c4_any (a b : Int) (w : World) (ha : InI a) (hb : InI b) (h0 : ¬ b = 0) :
    Calls Try.prog 45 #[.int .i64 a, .int .i64 b] w fun e w' => e = .returned (.int .i64 (wrap64 (a.tdiv b))) ∧ w = w' := by
  obtain ⟨a0, a1⟩ := ha
  obtain ⟨b0, b1⟩ := hb
  go_enter Try.func45, Try.ntmps45
  go_wp2
  go_ret
  exact ⟨rfl, rfl⟩

theorem c5_any (a b : Int) (w : World) (ha : InI a) (hb : InI b) (h0 : ¬ b = 0) :
    Calls Try.prog 46 #[.int .i64 a, .int .i64 b] w fun e w' => e = .returned (.int .i64 (a.tmod b)) ∧ w = w' := by
  obtain ⟨a0, a1⟩ := ha
  obtain ⟨b0, b1⟩ := hb
  go_enter Try.func46, Try.ntmps46
  go_wp2
  go_ret
  exact ⟨rfl, rfl⟩

theorem c6_any (a b : Int) (w : World) :
    Calls Try.prog 47 #[.int .i64 a, .int .i64 b] w fun e w' => e = .returned (.int .i64 (bits .and .i64 a b)) ∧ w = w' := by
  go_enter Try.func47, Try.ntmps47
  go_wp2
  go_ret
  exact ⟨rfl, rfl⟩

theorem c7_any (a b : Int) (w : World) :
    Calls Try.prog 48 #[.int .i64 a, .int .i64 b] w fun e w' => e = .returned (.int .i64 (bits .or .i64 a b)) ∧ w = w' := by
  go_enter Try.func48, Try.ntmps48
  go_wp2
  go_ret
  exact ⟨rfl, rfl⟩

theorem c8_any (a b : Int) (w : World) :
    Calls Try.prog 49 #[.int .i64 a, .int .i64 b] w fun e w' => e = .returned (.int .i64 (bits .xor .i64 a b)) ∧ w = w' := by
  go_enter Try.func49, Try.ntmps49
  go_wp2
  go_ret
  exact ⟨rfl, rfl⟩

theorem pos_any (b : Int) (w : World) :
    Calls Try.prog 51 #[.int .i64 b] w fun e w' => e = .returned (.int .i64 (b % 64)) ∧ w = w' := by
  go_enter Try.func51, Try.ntmps51
  go_wp2
  go_ret
  exact ⟨ret1 (and63 b), rfl⟩

theorem c9_any (a b : Int) (w : World) (ha : InI a) :
    Calls Try.prog 50 #[.int .i64 a, .int .i64 b] w fun e w' => e = .returned (.int .i64 (wrap64 (a * 2 ^ cnt b))) ∧ w = w' := by
  have hp := pos_any b w
  unfold cnt
  obtain ⟨c, hc⟩ : ∃ c, c = b % 64 := ⟨_, rfl⟩
  have p0 : 0 ≤ c := by omega
  have p1 : c < 64 := by omega
  rw [← hc] at hp ⊢
  clear hc
  obtain ⟨a0, a1⟩ := ha
  go_enter Try.func50, Try.ntmps50
  go_wp2_with fail
  refine hp.mono ?_
  rintro e w' ⟨rfl, rfl⟩
  go_wp2
  go_ret
  exact ⟨rfl, rfl⟩

theorem c10_any (a b : Int) (w : World) (ha : InI a) :
    Calls Try.prog 52 #[.int .i64 a, .int .i64 b] w fun e w' => e = .returned (.int .i64 (a / 2 ^ cnt b)) ∧ w = w' := by
  have hp := pos_any b w
  unfold cnt
  obtain ⟨c, hc⟩ : ∃ c, c = b % 64 := ⟨_, rfl⟩
  have p0 : 0 ≤ c := by omega
  have p1 : c < 64 := by omega
  rw [← hc] at hp ⊢
  clear hc
  obtain ⟨a0, a1⟩ := ha
  go_enter Try.func52, Try.ntmps52
  go_wp2_with fail
  refine hp.mono ?_
  rintro e w' ⟨rfl, rfl⟩
  go_wp2
  go_ret
  exact ⟨rfl, rfl⟩

theorem truth_any (t : Bool) (w : World) :
    Calls Try.prog 54 #[.bool t] w fun e w' => e = .returned (.int .i64 (tr t)) ∧ w = w' := by
  cases t
  all_goals
    go_enter Try.func54, Try.ntmps54
    go_wp2
    go_ret
    exact ⟨rfl, rfl⟩

theorem c11_any (a b : Int) (w : World) :
    Calls Try.prog 53 #[.int .i64 a, .int .i64 b] w fun e w' => e = .returned (.int .i64 (tr (a == b))) ∧ w = w' := by
  have hp := truth_any (a == b) w
  go_enter Try.func53, Try.ntmps53
  go_wp2_with fail
  refine hp.mono ?_
  rintro e w' ⟨rfl, rfl⟩
  go_wp2
  go_ret
  exact ⟨rfl, rfl⟩

theorem c12_any (a b : Int) (w : World) :
    Calls Try.prog 55 #[.int .i64 a, .int .i64 b] w fun e w' => e = .returned (.int .i64 (tr (decide (a < b)))) ∧ w = w' := by
  have hp := truth_any (decide (a < b)) w
  go_enter Try.func55, Try.ntmps55
  go_wp2_with fail
  refine hp.mono ?_
  rintro e w' ⟨rfl, rfl⟩
  go_wp2
  go_ret
  exact ⟨rfl, rfl⟩

end Go.Proofs.Ytfkknebjhcafhaa
