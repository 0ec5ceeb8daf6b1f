/-
  The walk of the statement on the bijection of layer 4.
-/
import Derived.Test.YtkaildgbjokmnaaDoorLocAwake
namespace Go.Proofs.YtkaildgbjokmnaaDoor
open Go.RowKit

theorem tx_len (x : Nat) (h : x < 2199023255552) : (tx x).length ≤ 9223372036854775807 := by
  have := dec_size (x / 2) (by omega)
  unfold tx
  split <;> (rw [List.length_cons]; omega)

set_option maxRecDepth 100000 in
set_option maxHeartbeats 1000000 in
theorem LocationBijection_walk (a0 a1 : Int) (w : World) (w0 : (Lit.int .u64 a0).wf = true) (w1 : (Lit.int .u64 a1).wf = true) (ht : Tab w) :
    Calls Tryd.prog 4 #[.int .u64 a0, .int .u64 a1] w fun e w' => e = .returned (.bool true) ∧ Below w.heap.size w w' := by
  have i0 := u64_of_wf w0
  have i1 := u64_of_wf w1
  clear w0 w1
  obtain ⟨a, ha⟩ : ∃ a : Nat, a0 % 1099511627776 = a := ⟨(a0 % 1099511627776).toNat, by omega⟩
  obtain ⟨b, hb⟩ : ∃ b : Nat, a1 % 1099511627776 = b := ⟨(a1 % 1099511627776).toNat, by omega⟩
  have ha2 : a < 1099511627776 := by omega
  have hb2 : b < 1099511627776 := by omega
  obtain ⟨R, hR⟩ : ∃ R, R = 2 * a := ⟨_, rfl⟩
  obtain ⟨S, hS⟩ : ∃ S, S = 2 * b + 1 := ⟨_, rfl⟩
  obtain ⟨T, hT⟩ : ∃ T, T = 2 * b := ⟨_, rfl⟩
  have hne : ((R : Int) != (S : Int)) = true := bne_iff_ne.2 (by omega)
  have heq : ((R : Int) == (T : Int)) = ((a : Int) == (b : Int)) := by
    by_cases h : a = b
    · have h2 : R = T := by omega
      rw [h, h2]; simp
    · rw [beq_eq_false_iff_ne.2 (by omega), beq_eq_false_iff_ne.2 (by omega)]
  have hR0 : (0 : Int) ≤ R := by omega
  have hS0 : (0 : Int) ≤ S := by omega
  have hR1 : Hid (R < 2199023255552) := Lib.hid (by omega)
  have hS1 : Hid (S < 2199023255552) := Lib.hid (by omega)
  have HR := Lib.hid hR; have HS := Lib.hid hS; have HT := Lib.hid hT
  clear hR hS hT
  go_enter Tryd.func4, Tryd.ntmps4
  go_wp2_with fail
  refine (awake_any _ ht).mono ?_
  rintro e W ⟨rfl, hst⟩
  go_wp2_with fail
  refine (reg_at a R _ ha2 HR.out.symm).mono ?_
  rintro e w' ⟨rfl, rfl⟩
  go_wp2_with fail
  refine (slot_at b S _ hb2 HS.out.symm).mono ?_
  rintro e w' ⟨rfl, rfl⟩
  go_wp2_with fail
  refine (text_at R (tx R) _ hR1.out rfl hst.tab).mono ?_
  rintro e w1 ⟨rfl, hb⟩
  replace hst := hst.next hb; clear hb
  go_wp2_with fail
  refine (parse_at (tx R) R true _ (tx_len _ hR1.out) (pk_tx hR1.out).2 (pk_tx hR1.out).1).mono ?_
  rintro e w2 ⟨rfl, hb⟩
  replace hst := hst.next hb; clear hb
  go_wp2_with fail
  refine (text_at S (tx S) _ hS1.out rfl hst.tab).mono ?_
  rintro e w3 ⟨rfl, hb⟩
  replace hst := hst.next hb; clear hb
  go_wp2_with fail
  refine (parse_at (tx S) S true _ (tx_len _ hS1.out) (pk_tx hS1.out).2 (pk_tx hS1.out).1).mono ?_
  rintro e w4 ⟨rfl, hb⟩
  replace hst := hst.next hb; clear hb
  go_wp2_with fail
  refine (index_at R a _ (by have := hR1.out; omega) (by have := HR.out; omega)).mono ?_
  rintro e w' ⟨rfl, rfl⟩
  go_wp2_with fail
  refine (index_at S b _ (by have := hS1.out; omega) (by have := HS.out; omega)).mono ?_
  rintro e w' ⟨rfl, rfl⟩
  go_wp2_with fail
  refine (isslot_any R false _ (by have := hR1.out; omega) (decide_eq_false (by have := HR.out; omega)).symm).mono ?_
  rintro e w' ⟨rfl, rfl⟩
  go_wp2_with fail
  refine (isslot_any S true _ (by have := hS1.out; omega) (decide_eq_true (by have := HS.out; omega)).symm).mono ?_
  rintro e w' ⟨rfl, rfl⟩
  go_wp2_with fail
  refine (reg_at a R _ ha2 HR.out.symm).mono ?_
  rintro e w' ⟨rfl, rfl⟩
  go_wp2_with fail
  refine (reg_at b T _ hb2 HT.out.symm).mono ?_
  rintro e w' ⟨rfl, rfl⟩
  go_wp2_with fail
  go_ret
  exact ⟨rfl, hst.below⟩

end Go.Proofs.YtkaildgbjokmnaaDoor
