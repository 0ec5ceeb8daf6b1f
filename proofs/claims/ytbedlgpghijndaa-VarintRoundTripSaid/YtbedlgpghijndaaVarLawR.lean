/-
  The walk of the statement that what is encoded is decoded, whatever bytes follow.
-/
import Derived.Test.YtbedlgpghijndaaVarAwake
import Derived.Test.YtbedlgpghijndaaVarAdd
import Derived.Test.YtbedlgpghijndaaVarMath2
namespace Go.Proofs.Ytbedlgpghijndaa
open Go.RowKit

theorem getS_put (v : Nat) (r : List Nat) (hv : v < 18446744073709551616) : getS (putS v ++ r) = (v, lenS v, 0) := getS_putS v r hv

set_option maxRecDepth 100000 in
set_option maxHeartbeats 400000 in
theorem VarintRoundTrip_walk (a0 : Int) (a1 : Option Addr) (len1 cap1 : Nat) (z1 : List Int) (w : World) (w0 : (Lit.int .u64 a0).wf = true) (w1 : IsRow .u8 w a1 len1 cap1 z1) :
    Calls Try.prog 4 #[.int .u64 a0, .slice a1 len1 cap1] w fun e w' => e = .returned (.bool true) ∧ Below w.heap.size w w' := by
  obtain ⟨u0, u1⟩ := u64_of_wf w0
  obtain ⟨l, rfl, hby, hs, hlc, hcm⟩ := w1.bytes
  clear w0 w1
  by_cases hlong : 1000 < l.length
  · go_enter Try.func4, Try.ntmps4
    go_wp2_with fail
    refine (awake_any _).mono ?_
    rintro e W ⟨rfl, hb⟩
    go_wp2_with fail
    refine (awake_any _).mono ?_
    rintro e W2 ⟨rfl, hb2⟩
    go_wp2_with fail
    go_ret
    exact ⟨rfl, hb.trans (hb2.mono hb.size)⟩
  · have hl10 := putS_le a0.toNat
    have hl1 : 1 ≤ lenS a0.toNat := putS_pos a0.toNat
    have hl2 : lenS a0.toNat ≤ 10 := hl10
    go_enter Try.func4, Try.ntmps4
    go_wp2_with fail
    refine (awake_any _).mono ?_
    rintro e W ⟨rfl, hb⟩
    have hs1 := hs.below hb
    go_wp2_with fail
    refine (put_any _ _ u0 u1).mono ?_
    rintro e W2 ⟨g, rfl, ho, hb2⟩
    have hs2 := (hs1.more hb.size).below hb2
    have hs3 := hs2.more hb2.size
    have s1 := Sees.of_own ho
    clear hs hs1 hs2
    go_wp2_with fail
    refine (add_any _ _ (putS a0.toNat) l _ _ _ s1 hs3 (by omega)).mono ?_
    rintro e W3 ⟨A1, c1, rfl, ho1, hb3⟩
    have s2 := Sees.of_own ho1
    have hg := get_any _ A1 (putS a0.toNat ++ l) c1 W3 s2 (fun x hx => (List.mem_append.1 hx).elim (fun h => putS_byt _ (by omega) x h) (fun h => hby x h)) (by rw [List.length_append]; unfold maxLen; omega)
    rw [getS_put a0.toNat l (by omega), show ((a0.toNat : Nat) : Int) = a0 by omega, List.length_append] at hg
    have HG := Lib.hid hg
    clear hg s1 hs3 s2
    go_wp2_with fail
    refine (HG.out).mono ?_
    rintro e W4 ⟨rfl, rfl⟩
    clear HG
    go_wp2_with fail
    refine (len_any _ _ u0 u1).mono ?_
    rintro e W' ⟨rfl, rfl⟩
    go_wp2_with fail
    go_ret
    exact ⟨retb (by omega), (hb.trans (hb2.mono hb.size)).trans (hb3.mono (Nat.le_trans hb.size hb2.size))⟩

end Go.Proofs.Ytbedlgpghijndaa
