/-
  The reference's Zigzag returns what the plain function computes.
-/
import Derived.Test.YtacmgfndmolnfaaPk1
namespace Go.Proofs.Ytacmgfndmolnfaa
open Go.RowKit

set_option maxRecDepth 100000 in
set_option maxHeartbeats 1000000 in
theorem rzig_any (n : Int) (w : World) (h : InI n) :
    Calls Try.prog 63 #[.int .i64 n] w fun e w' => e = .returned (.int .u64 (zz n)) ∧ w = w' := by
  obtain ⟨h0, h1⟩ := h
  go_enter Try.func63, Try.ntmps63
  go_wp2
  all_goals go_ret
  · exact ⟨ret1 (zz_pos (by assumption)), rfl⟩
  · exact ⟨ret1 (zz_neg (by assumption)), rfl⟩

end Go.Proofs.Ytacmgfndmolnfaa
