/-
  The walk of the statement that what is decoded is the encoding, and that two integers have the same encoding exactly if they are equal.
-/
import Derived.Test.YtbedlgpghijndaaVarAwake
import Derived.Test.YtbedlgpghijndaaVarMath2
import Derived.Deep.RegionWith
import Derived.Deep.RegionHeld3
namespace Go.Proofs.Ytbedlgpghijndaa
open Go.RowKit

theorem same_put {v w : Int} (v0 : 0 ≤ v) (v1 : v ≤ 18446744073709551615) (w0 : 0 ≤ w) (w1 : w ≤ 18446744073709551615) : sameB (putS v.toNat) (putS w.toNat) = (v == w) := by
  by_cases h : v = w
  · subst h
    rw [sameB_self]
    simp
  · rw [sameB_no, beq_eq_false_iff_ne.2 h]
    intro e
    have := putS_inj (by omega) (by omega) e
    omega
theorem sees_move {w w' : World} {B B' : Nat} {A : Option Addr} {xs : List Value} (h : Sees w B A xs) (hb : Below B' w w') (hB : B ≤ B') : Sees w' B A xs := h.below (hb.mono hB)

set_option maxRecDepth 100000 in
set_option maxHeartbeats 400000 in
theorem VarintCanonical_walk (a0 : Option Addr) (len0 cap0 : Nat) (z0 : List Int) (a1 : Int) (a2 : Int) (w : World) (w0 : IsRow .u8 w a0 len0 cap0 z0) (w1 : (Lit.int .u64 a1).wf = true) (w2 : (Lit.int .u64 a2).wf = true) :
    Calls Try.prog 5 #[.slice a0 len0 cap0, .int .u64 a1, .int .u64 a2] w fun e w' => e = .returned (.bool true) ∧ Below w.heap.size w w' := by
  obtain ⟨u0, u1⟩ := u64_of_wf w1
  obtain ⟨v0, v1⟩ := u64_of_wf w2
  obtain ⟨l, rfl, hby, hs, hlc, hcm⟩ := w0.bytes
  clear w0 w1 w2
  by_cases hlong : 1000 < l.length
  · go_enter Try.func5, Try.ntmps5
    go_wp2_with fail
    refine (awake_any _).mono ?_
    rintro e W ⟨rfl, hb⟩
    go_wp2_with fail
    refine (awake_any _).mono ?_
    rintro e W2 ⟨rfl, hb2⟩
    go_wp2_with fail
    go_ret
    exact ⟨rfl, hb.trans (hb2.mono hb.size)⟩
  · have hm : l.length ≤ maxLen := by unfold maxLen; omega
    have l1 : lenS a1.toNat ≤ maxLen := by have : lenS a1.toNat ≤ 10 := putS_le _; unfold maxLen; omega
    have l2 : lenS a2.toNat ≤ maxLen := by have : lenS a2.toNat ≤ 10 := putS_le _; unfold maxLen; omega
    have HSP := Lib.hid (same_put u0 u1 v0 v1)
    go_enter Try.func5, Try.ntmps5
    go_wp2_with fail
    refine (awake_any _).mono ?_
    rintro e W ⟨rfl, hb⟩
    have hs1 := hs.below hb
    have hg := get_any _ a0 l cap0 W hs1 hby hm
    rcases getS_kinds l with ⟨x, n, hk⟩ | hk | hk
    · rw [hk] at hg
      obtain ⟨c1, c2, c3⟩ := getS_canon hby hk
      have hx := getS_lt hby hk
      have HG := Lib.hid hg
      have HK := Lib.hid c3
      clear hg hk c3 hs
      go_wp2_with fail
      refine (HG.out).mono ?_
      rintro e W4 ⟨rfl, rfl⟩
      clear HG
      have d1 : (1 : Int) ≤ (n : Int) := by omega
      have d2 : (n : Int) ≤ (l.length : Int) := by omega
      have d3 : (n : Int) ≤ (cap0 : Int) := by omega
      have hn10 : lenS x ≤ 10 := putS_le x
      have l3 : lenS x ≤ maxLen := by unfold maxLen; omega
      have l4 : n ≤ maxLen := by omega
      have htl : (l.take n).length = n := by rw [List.length_take]; omega
      have HTL := Lib.hid htl
      have HT := Lib.hid (sameB_yes HK.out)
      have hst : Sees W w.heap.size a0 (bts (l.take n)) := by have := hs1.take (k := n); unfold bts at *; rwa [List.map_take]
      have hz := hb.size
      clear htl hs1 c1 c2
      go_wp2_with fail
      go_region_held3 (fun w' => Below w.heap.size W w') (first | exact Below.refl _ _ | exact (Below.refl _ _).drew | assumption | exact blw_drewN (by assumption) _ | exact Below.drew (by assumption)) (first
        | (go_at_call_of 14 (x : Int); refine (put_any _ _ (by omega) (by omega)).mono ?_; rintro e Wa ⟨ga, rfl, hoa, hba⟩; rw [Int.toNat_natCast] at hoa; rw [Int.toNat_natCast]; have kba : Below w.heap.size W Wa := below_un hba hz; have zba : w.heap.size ≤ Wa.heap.size := Nat.le_trans hz kba.size; have sla := hst.below kba; have sa := Sees.of_own hoa; clear hoa hba)
        | (go_at_call_of 13 (some (⟨ga, 0, none⟩ : Addr)); refine (same_at (putS x) (l.take n) _ _ _ Wa.heap.size _ _ _ _ _ HT.out rfl HTL.out l3 l4 ?_ ?_).mono ?_; exact sa; exact sla.more zba; rintro e Wb ⟨rfl, nb, rfl⟩)
        | (go_at_call_of 14 a1; refine (put_any _ _ u0 u1).mono ?_; rintro e Wc ⟨gc, rfl, hoc, hbc⟩; have kbc : Below w.heap.size W Wc := kba.trans (below_unN hbc zba); have zbc : w.heap.size ≤ Wc.heap.size := Nat.le_trans hz kbc.size; have sc := Sees.of_own hoc; clear hoc hbc)
        | (go_at_call_of 14 a2; refine (put_any _ _ v0 v1).mono ?_; rintro e Wd ⟨gd, rfl, hod, hbd⟩; have kbd : Below w.heap.size W Wd := kbc.trans (hbd.mono zbc); have sc2 := sc.below hbd; have sc3 := sc2.more hbd.size; have sd := Sees.of_own hod; clear hod hbd)
        | (go_at_call_of 13 (some (⟨gc, 0, none⟩ : Addr)); refine (same_at (putS a1.toNat) (putS a2.toNat) _ _ _ Wd.heap.size _ _ _ _ _ HSP.out rfl rfl l1 l2 ?_ ?_).mono ?_; exact sc3; exact sd; rintro e We ⟨rfl, ne, rfl⟩))
      go_wp2
      go_ret
      exact ⟨rfl, hb.trans (blw_drewN kbd ne)⟩
    · rw [hk] at hg
      have HG := Lib.hid hg
      clear hg hk hs hs1
      go_wp2_with fail
      refine (HG.out).mono ?_
      rintro e W4 ⟨rfl, rfl⟩
      clear HG
      go_wp2_with fail
      refine (put_any _ _ u0 u1).mono ?_
      rintro e W5 ⟨g, rfl, ho, hb5⟩
      go_wp2_with fail
      refine (put_any _ _ v0 v1).mono ?_
      rintro e W6 ⟨g', rfl, ho', hb6⟩
      have s1 := (Sees.of_own ho).below hb6
      have s2 := Sees.of_own ho'
      go_wp2_with fail
      refine (same_at (putS a1.toNat) (putS a2.toNat) _ _ _ _ _ _ _ _ _ HSP.out rfl rfl l1 l2 (s1.more hb6.size) s2).mono ?_
      rintro e W7 ⟨rfl, nd, rfl⟩
      go_wp2_with fail
      go_ret
      exact ⟨rfl, blw_drewN ((hb.trans (hb5.mono hb.size)).trans (hb6.mono (Nat.le_trans hb.size hb5.size))) nd⟩
    · rw [hk] at hg
      have HG := Lib.hid hg
      clear hg hk hs hs1
      go_wp2_with fail
      refine (HG.out).mono ?_
      rintro e W4 ⟨rfl, rfl⟩
      clear HG
      go_wp2_with fail
      refine (put_any _ _ u0 u1).mono ?_
      rintro e W5 ⟨g, rfl, ho, hb5⟩
      go_wp2_with fail
      refine (put_any _ _ v0 v1).mono ?_
      rintro e W6 ⟨g', rfl, ho', hb6⟩
      have s1 := (Sees.of_own ho).below hb6
      have s2 := Sees.of_own ho'
      go_wp2_with fail
      refine (same_at (putS a1.toNat) (putS a2.toNat) _ _ _ _ _ _ _ _ _ HSP.out rfl rfl l1 l2 (s1.more hb6.size) s2).mono ?_
      rintro e W7 ⟨rfl, nd, rfl⟩
      go_wp2_with fail
      go_ret
      exact ⟨rfl, blw_drewN ((hb.trans (hb5.mono hb.size)).trans (hb6.mono (Nat.le_trans hb.size hb5.size))) nd⟩

end Go.Proofs.Ytbedlgpghijndaa
