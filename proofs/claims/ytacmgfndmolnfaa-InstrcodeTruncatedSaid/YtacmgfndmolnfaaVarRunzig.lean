/-
  The reference's Unzigzag returns what the plain function computes.
-/
import Derived.Test.YtacmgfndmolnfaaPk1
namespace Go.Proofs.Ytacmgfndmolnfaa
open Go.RowKit

set_option maxRecDepth 100000 in
set_option maxHeartbeats 1000000 in
theorem runzig_any (u : Int) (w : World) (h : InU u) :
    Calls Try.prog 75 #[.int .u64 u] w fun e w' => e = .returned (.int .i64 (uz u)) ∧ w = w' := by
  obtain ⟨h0, h1⟩ := h
  go_enter Try.func75, Try.ntmps75
  go_wp2
  all_goals go_ret
  · exact ⟨ret1 (uz_even (by assumption)), rfl⟩
  · exact ⟨ret1 (uz_odd (by assumption)), rfl⟩

end Go.Proofs.Ytacmgfndmolnfaa
