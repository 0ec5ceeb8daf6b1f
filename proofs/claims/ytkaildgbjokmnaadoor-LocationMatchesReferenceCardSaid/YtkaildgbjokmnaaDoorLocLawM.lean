/-
  The walk of the statement that layer 4 returns what the reference returns.
-/
import Derived.Test.YtkaildgbjokmnaaDoorLocAwake
namespace Go.Proofs.YtkaildgbjokmnaaDoor
open Go.RowKit

theorem parse_s (s : ByteArray) (n : Nat) (b : Bool) (w : World) (hs : s.size ≤ 9223372036854775807) (hn : pv s.data.toList = n) (hb : pk s.data.toList = b) :
    Calls Tryd.prog 8 #[.string s] w fun e w' => e = .returned (.tuple #[.int .i64 n, .bool b]) ∧ Below w.heap.size w w' := by
  subst hn; subst hb
  exact parse_any s w (by unfold maxLen; exact hs)
theorem rparse_s (s : ByteArray) (n : Nat) (b : Bool) (w : World) (hs : s.size ≤ 9223372036854775807) (hn : pv s.data.toList = n) (hb : pk s.data.toList = b) :
    Calls Tryd.prog 9 #[.string s] w fun e w' => e = .returned (.tuple #[.int .i64 n, .bool b]) ∧ w = w' := by
  subst hn; subst hb
  exact rparse_any s w (by unfold maxLen; exact hs)

set_option maxRecDepth 100000 in
set_option maxHeartbeats 1000000 in
theorem LocationMatchesReference_walk (a0 a1 : Int) (a2 : ByteArray) (a3 a4 : Int) (w : World) (w0 : (Lit.int .u64 a0).wf = true) (w1 : (Lit.int .i64 a1).wf = true) (w2 : a2.size ≤ maxLen) (_ : (Lit.int .i64 a3).wf = true) (_ : (Lit.int .i64 a4).wf = true) (ht : Tab w) :
    Calls Tryd.prog 3 #[.int .u64 a0, .int .i64 a1, .string a2, .int .i64 a3, .int .i64 a4] w fun e w' => e = .returned (.bool true) ∧ Below w.heap.size w w' := by
  have i0 := u64_of_wf w0
  have i1 := i64_of_wf w1
  clear w0 w1
  unfold maxLen at w2
  by_cases hlen : (1000 : Int) < a2.size
  · go_enter Tryd.func3, Tryd.ntmps3
    go_wp2_with fail
    refine (awake_any _ ht).mono ?_
    rintro e W ⟨rfl, hst⟩
    go_wp2_with fail
    refine (awake_any _ hst.tab).mono ?_
    rintro e W2 ⟨rfl, hst2⟩
    replace hst := hst.next hst2.below
    go_wp2_with fail
    go_ret
    exact ⟨rfl, hst.below⟩
  obtain ⟨x, hx⟩ : ∃ x : Nat, a0 % 2199023255552 = x := ⟨(a0 % 2199023255552).toNat, by omega⟩
  have hx2 : x < 2199023255552 := by omega
  have hsz : a2.size ≤ 9223372036854775807 := by omega
  obtain ⟨p, hp⟩ : ∃ p, pv a2.data.toList = p := ⟨_, rfl⟩
  obtain ⟨k, hk⟩ : ∃ k, pk a2.data.toList = k := ⟨_, rfl⟩
  obtain ⟨q, hq⟩ : ∃ q, inS a1 a3 a4 = q := ⟨_, rfl⟩
  obtain ⟨o, ho⟩ : ∃ o, o = decide (x % 2 = 1) := ⟨_, rfl⟩
  obtain ⟨t, htx⟩ : ∃ t, tx x = t := ⟨_, rfl⟩
  have ho2 : ((x : Int) % 2 == 1) = o := by
    rw [ho]
    by_cases h : x % 2 = 1
    · rw [decide_eq_true h, beq_iff_eq]; omega
    · rw [decide_eq_false h, beq_eq_false_iff_ne]; omega
  have HP := Lib.hid hp; have HK := Lib.hid hk; have HQ := Lib.hid hq; have HO := Lib.hid ho; have HT := Lib.hid htx; have HX := Lib.hid hx2
  clear hp hk hq ho htx
  obtain ⟨h, hh⟩ : ∃ h : Nat, x / 2 = h := ⟨_, rfl⟩
  have hh2 : (x : Int) / 2 = h := by omega
  have HH := Lib.hid hh
  clear hh
  go_enter Tryd.func3, Tryd.ntmps3
  go_wp2_with fail
  refine (awake_any _ ht).mono ?_
  rintro e W ⟨rfl, hst⟩
  go_wp2_with fail
  refine (parse_s a2 p k _ hsz HP.out HK.out).mono ?_
  rintro e w1 ⟨rfl, hb⟩
  replace hst := hst.next hb; clear hb
  go_wp2_with fail
  refine (rparse_s a2 p k _ hsz HP.out HK.out).mono ?_
  rintro e w' ⟨rfl, rfl⟩
  go_wp2_with fail
  refine (isslot_any x o _ (by have := HX.out; omega) HO.out).mono ?_
  rintro e w' ⟨rfl, rfl⟩
  go_wp2_with fail
  refine (index_at x h _ (by have := HX.out; omega) HH.out).mono ?_
  rintro e w' ⟨rfl, rfl⟩
  go_wp2_with fail
  refine (text_at x t _ HX.out HT.out hst.tab).mono ?_
  rintro e w2 ⟨rfl, hb⟩
  replace hst := hst.next hb; clear hb
  go_wp2_with fail
  refine (rtext_any x _ HX.out).mono ?_
  rintro e w' ⟨rfl, rfl⟩
  rw [HT.out]
  go_wp2_with fail
  refine (inrange_any a1 a3 a4 _ i1.1 i1.2).mono ?_
  rintro e w' ⟨rfl, rfl⟩
  rw [HQ.out]
  go_wp2_with fail
  refine (rinrange_any a1 a3 a4 _ i1.1 i1.2).mono ?_
  rintro e w' ⟨rfl, rfl⟩
  rw [HQ.out]
  go_wp2_with fail
  go_ret
  exact ⟨rfl, hst.below⟩

end Go.Proofs.YtkaildgbjokmnaaDoor
