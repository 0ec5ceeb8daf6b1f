/-
  The walk of the statement that the program agrees with the reference.
-/
import Derived.Test.YtbedlgpghijndaaVarAwake
namespace Go.Proofs.Ytbedlgpghijndaa
open Go.RowKit

set_option maxRecDepth 100000 in
set_option maxHeartbeats 2000000 in
theorem VarintMatchesReference_walk (a0 : Int) (a1 : Option Addr) (len1 cap1 : Nat) (z1 : List Int) (a2 : Int) (w : World) (w0 : (Lit.int .u64 a0).wf = true) (w1 : IsRow .u8 w a1 len1 cap1 z1) (w2 : (Lit.int .i64 a2).wf = true) :
    Calls Try.prog 3 #[.int .u64 a0, .slice a1 len1 cap1, .int .i64 a2] w fun e w' => e = .returned (.bool true) ∧ Below w.heap.size w w' := by
  obtain ⟨u0, u1⟩ := u64_of_wf w0
  have i2 : InI a2 := i64_of_wf w2
  have hu : InU a0 := ⟨u0, u1⟩
  obtain ⟨l, rfl, hby, hs, hlc, hcm⟩ := w1.bytes
  clear w0 w1 w2
  by_cases hlong : 1000 < l.length
  · go_enter Try.func3, Try.ntmps3
    go_wp2_with fail
    refine (awake_any _).mono ?_
    rintro e W ⟨rfl, hb⟩
    go_wp2_with fail
    refine (awake_any _).mono ?_
    rintro e W2 ⟨rfl, hb2⟩
    go_wp2_with fail
    go_ret
    exact ⟨rfl, hb.trans (hb2.mono hb.size)⟩
  · have hm : l.length ≤ maxLen := by unfold maxLen; omega
    go_enter Try.func3, Try.ntmps3
    go_wp2_with fail
    refine (awake_any _).mono ?_
    rintro e W ⟨rfl, hb⟩
    have hs1 := hs.below hb
    go_wp2_with fail
    refine (get_any _ _ l _ _ hs1 hby hm).mono ?_
    rintro e W' ⟨rfl, rfl⟩
    go_wp2_with fail
    refine (rget_any _ _ l _ _ hs1 hby hm).mono ?_
    rintro e W' ⟨rfl, rfl⟩
    go_wp2_with fail
    refine (rput_any _ _ u0 u1).mono ?_
    rintro e W2 ⟨g, c, rfl, ho, hb2⟩
    go_wp2_with fail
    refine (put_any _ _ u0 u1).mono ?_
    rintro e W3 ⟨g', rfl, ho', hb3⟩
    have hsz2 := hb2.size
    have s1 := (Sees.of_own ho).below hb3
    have s2 := Sees.of_own ho'
    go_wp2_with fail
    refine (same_any _ _ _ (putS a0.toNat) (putS a0.toNat) _ _ _ s2 (s1.more hb3.size) (by have := putS_le a0.toNat; unfold maxLen; omega) (by have := putS_le a0.toNat; unfold maxLen; omega)).mono ?_
    rintro e W4 ⟨rfl, n, rfl⟩
    have esb := sameB_self (putS a0.toNat)
    go_wp2_with fail
    refine (len_any _ _ u0 u1).mono ?_
    rintro e W' ⟨rfl, rfl⟩
    go_wp2_with fail
    refine (zig_any _ _ i2).mono ?_
    rintro e W' ⟨rfl, rfl⟩
    go_wp2_with fail
    refine (rzig_any _ _ i2).mono ?_
    rintro e W' ⟨rfl, rfl⟩
    go_wp2_with fail
    refine (unzig_any _ _ hu).mono ?_
    rintro e W' ⟨rfl, rfl⟩
    go_wp2_with fail
    refine (runzig_any _ _ hu).mono ?_
    rintro e W' ⟨rfl, rfl⟩
    go_wp2_with fail
    go_ret
    exact ⟨rfl, blw_drewN ((hb.trans (hb2.mono hb.size)).trans (hb3.mono (Nat.le_trans hb.size hb2.size))) n⟩

end Go.Proofs.Ytbedlgpghijndaa
