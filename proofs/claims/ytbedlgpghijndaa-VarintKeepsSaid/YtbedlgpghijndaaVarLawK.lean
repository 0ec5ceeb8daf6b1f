/-
  The walk of the statement that Get leaves its argument alone and that results of Put are newly allocated.
-/
import Derived.Test.YtbedlgpghijndaaVarAwake
import Derived.Test.YtbedlgpghijndaaVarAdd
namespace Go.Proofs.Ytbedlgpghijndaa
open Go.RowKit

set_option maxRecDepth 100000 in
set_option maxHeartbeats 400000 in
theorem VarintKeeps_walk (a0 : Option Addr) (len0 cap0 : Nat) (z0 : List Int) (a1 : Int) (w : World) (w0 : IsRow .u8 w a0 len0 cap0 z0) (w1 : (Lit.int .u64 a1).wf = true) :
    Calls Try.prog 8 #[.slice a0 len0 cap0, .int .u64 a1] w fun e w' => e = .returned (.bool true) ∧ Below w.heap.size w w' := by
  obtain ⟨u0, u1⟩ := u64_of_wf w1
  obtain ⟨l, rfl, hby, hs, hlc, hcm⟩ := w0.bytes
  clear w0 w1
  by_cases hlong : 1000 < l.length
  · go_enter Try.func8, Try.ntmps8
    go_wp2_with fail
    refine (awake_any _).mono ?_
    rintro e W ⟨rfl, hb⟩
    go_wp2_with fail
    refine (awake_any _).mono ?_
    rintro e W2 ⟨rfl, hb2⟩
    go_wp2_with fail
    go_ret
    exact ⟨rfl, hb.trans (hb2.mono hb.size)⟩
  · have hl1 : 1 ≤ lenS a1.toNat := putS_pos a1.toNat
    have hl2 : lenS a1.toNat ≤ 10 := putS_le a1.toNat
    have l1 : lenS a1.toNat ≤ maxLen := by unfold maxLen; omega
    have l2 : l.length ≤ maxLen := by omega
    have l3 : l.length ≤ 1000 := by omega
    obtain ⟨i0, hi, hz0, hz1, hz2⟩ := info_parts Try.infoU8
    clear hlong
    go_enter Try.func8, Try.ntmps8
    go_wp2_with fail
    refine (awake_any _).mono ?_
    rintro e W ⟨rfl, hb⟩
    have hz := hb.size
    have s1 := (hs.below hb).more hz
    go_wp2_with (at_builtin; refine wpList_append_sees _ rfl (.tmp 16) (.tmp 17) 23 rfl W.heap.size 5 i0 (.int .u8 0) 1 Try.underlying23 hi hz0 hz1 hz2 rfl _ _ _ rfl (World.ownsRow_made W #[] 0 (Nat.le_refl _) (by decide) rfl) W.heap.size _ _ _ (bts l) rfl (s1.alloc (Nat.le_refl _) _) (bts_length _) (bts_one _) ?c1 ?c2 ?c3 ?_)
    case c1 => unfold maxLen; omega
    case c2 => omega
    case c3 => simp
    intro v1 W1 ho1 hg1
    have hb1 : Below W.heap.size W W1 := ((Below.refl _ _).alloc (Nat.le_refl _) _).grown hg1 (by simp) (fun k hk => by simp [Value.ownBlock] at hk; omega)
    have hf : ∃ A1 c1, v1 = .slice A1 l.length c1 := by
      rcases ho1.2 with ⟨hv, h0⟩ | ⟨g, cap, cur, hv, _⟩
      · exact ⟨none, 0, by rw [hv]; simp at h0; rw [h0]; rfl⟩
      · exact ⟨_, cap, by simpa using hv⟩
    obtain ⟨A1, c1, rfl⟩ := hf
    have s2 : Sees W1 W1.heap.size A1 (bts l) := Sees.of_own (by simpa using ho1)
    have s3 : Sees W1 W.heap.size a0 (bts l) := s1.below hb1
    clear ho1 hg1 hs s1
    have hz1' := hb1.size
    go_wp2_with fail
    refine (get_any _ _ l _ _ s3 hby l2).mono ?_
    rintro e W' ⟨rfl, rfl⟩
    go_wp2_with fail
    refine (put_any _ _ u0 u1).mono ?_
    rintro e W2 ⟨g, rfl, ho, hb2⟩
    have ho2 : W2.ownsRow W1.heap.size 5 1 (.slice (some ⟨g, 0, none⟩) (lenS a1.toNat) (lenS a1.toNat)) (lenS a1.toNat) (((putS a1.toNat).map fun x : Nat => (x : Int)).map (Value.int .u8)) := by
      rw [List.map_map]
      exact ho
    have hpl : ((putS a1.toNat).map fun x : Nat => (x : Int)).length = lenS a1.toNat := by simp [lenS]
    have HO2 := Lib.hid ho2
    have HPL := Lib.hid hpl
    clear ho ho2 hpl
    go_wp2_with fail
    go_loopw [7] (fun i wr => ∃ (k : Nat) (zs : List Int), k ≤ lenS a1.toNat ∧ i = .int .i64 k ∧ Hid (zs.length = lenS a1.toNat) ∧
      wr.ownsRow W1.heap.size 5 1 (.slice (some ⟨g, 0, none⟩) (lenS a1.toNat) (lenS a1.toNat)) (lenS a1.toNat) (zs.map (Value.int .u8)) ∧ Below W1.heap.size W1 wr) (fun i _ => lenS a1.toNat - (intOf i).toNat)
    case atStart => exact ⟨0, _, Nat.zero_le _, rfl, HPL.out, HO2.out, hb2⟩
    case round =>
      obtain ⟨k, zs, hk, rfl, HZ, hown, hbel⟩ := hrel
      clear HO2 HPL
      by_cases hlt : k < lenS a1.toNat
      · have hzk : k < zs.length := by have := HZ.out; omega
        have hcell : wr.cell? ⟨g, k, none⟩ = some (.int .u8 zs[k]) := (hown.cellAt k (by omega)).trans (by simp [hzk])
        have hfr := hown.frozenAt k
        have hst := fun z : Int => hown.stored k (.int .u8 z)
        have hgb := (hown.lt g (by simp [Value.ownBlock])).1
        have HS := Lib.hid hst
        clear hst hown
        generalize zs[k] = y at hcell
        go_wp2
        go_roundw
        case rel => exact ⟨k + 1, zs.set k _, by omega, by go_num, by have := HZ.out; simp [Hid, this], by rw [List.map_set]; exact (HS.out _).1, hbel.setCell (p := ⟨g, k, none⟩) hgb _⟩
        case measure => simp [intOf]; omega
      · have hzr := hbel.size
        have s4 := (s2.below hbel).more hzr
        have s5 := (s3.below (hbel.mono hz1')).more (Nat.le_trans hz1' hzr)
        have HB := Lib.hid (sameB_self l)
        have HP := Lib.hid (sameB_self (putS a1.toNat))
        clear hown
        go_wp2_with fail
        refine (same_at l l _ _ _ _ _ _ _ _ _ HB.out rfl rfl l2 l2 s5 s4).mono ?_
        rintro e W3 ⟨rfl, n, rfl⟩
        go_wp2_with fail
        refine (put_any _ _ u0 u1).mono ?_
        rintro e W4 ⟨g4, rfl, ho4, hb4⟩
        go_wp2_with fail
        refine (rput_any _ _ u0 u1).mono ?_
        rintro e W5 ⟨g5, c5, rfl, ho5, hb5⟩
        have hz5 := hb5.size
        have s6 := ((Sees.of_own ho4).below hb5).more hz5
        have s7 := Sees.of_own ho5
        go_wp2_with fail
        refine (same_at (putS a1.toNat) (putS a1.toNat) _ _ _ _ _ _ _ _ _ HP.out rfl rfl l1 l1 s6 s7).mono ?_
        rintro e W6 ⟨rfl, n6, rfl⟩
        go_wp2_with fail
        go_ret
        refine ⟨rfl, blw_drewN ?_ _⟩
        have k1 : Below w.heap.size w wr := (hb.trans (hb1.mono hz)).trans (hbel.mono (Nat.le_trans hz hz1'))
        have k2 : Below w.heap.size wr W4 := below_unN hb4 k1.size
        exact (k1.trans k2).trans (hb5.mono (k1.trans k2).size)

end Go.Proofs.Ytbedlgpghijndaa
