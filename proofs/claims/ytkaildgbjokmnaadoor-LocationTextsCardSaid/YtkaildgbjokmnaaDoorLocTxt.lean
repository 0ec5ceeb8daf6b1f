/-
  The texts of locations: the program's Text and the reference's, the reference's Number and Parse, the program's Parse.
-/
import Derived.Test.YtkaildgbjokmnaaDoorLocRef
namespace Go.Proofs.YtkaildgbjokmnaaDoor
open Go.RowKit
open Go.Lib (decDigits)

theorem tx_even {x : Nat} (h : x % 2 = 0) : tx x = 114 :: decDigits (x / 2) := by rw [tx, if_pos h]
theorem tx_odd {x : Nat} (h : x % 2 = 1) : tx x = 115 :: decDigits (x / 2) := by rw [tx, if_neg (by omega)]
theorem str_cons (c : UInt8) (l : List UInt8) : (⟨#[c]⟩ ++ ⟨l.toArray⟩ : ByteArray) = ⟨(c :: l).toArray⟩ := ByteArray.mk_append_mk [c] l

set_option maxRecDepth 100000 in
set_option maxHeartbeats 1000000 in
theorem text_any (x : Nat) (w : World) (hx : x < 2199023255552) (ht : Tab w) :
    Calls Tryd.prog 12 #[.int .i64 x] w fun e w' => e = .returned (.string ⟨(tx x).toArray⟩) ∧ Below w.heap.size w w' := by
  have hsz := dec_size (x / 2) (by omega)
  have hx2 : x < 9223372036854775808 := by omega
  rcases Nat.mod_two_eq_zero_or_one x with h2 | h2
  · have e2 : Hid (false = decide (x % 2 = 1)) := Lib.hid (by simp [h2])
    rw [tx_even h2]
    clear h2
    go_enter Tryd.func12, Tryd.ntmps12
    go_wp2_with (first
      | (go_at_call 10; refine (isslot_any x false _ hx2 e2.out).mono ?_; rintro e w' ⟨rfl, rfl⟩)
      | (go_at_call 11; refine (index_any x _ hx2).mono ?_; rintro e w' ⟨rfl, rfl⟩)
      | (go_at_call 20; refine (itoa_any (x / 2) _ (by omega) ht).mono ?_; rintro e w' ⟨rfl, hb⟩))
    go_ret
    exact ⟨by rw [str_cons]; rfl, hb⟩
  · have e2 : Hid (true = decide (x % 2 = 1)) := Lib.hid (by simp [h2])
    rw [tx_odd h2]
    clear h2
    go_enter Tryd.func12, Tryd.ntmps12
    go_wp2_with (first
      | (go_at_call 10; refine (isslot_any x true _ hx2 e2.out).mono ?_; rintro e w' ⟨rfl, rfl⟩)
      | (go_at_call 11; refine (index_any x _ hx2).mono ?_; rintro e w' ⟨rfl, rfl⟩)
      | (go_at_call 20; refine (itoa_any (x / 2) _ (by omega) ht).mono ?_; rintro e w' ⟨rfl, hb⟩))
    go_ret
    exact ⟨by rw [str_cons]; rfl, hb⟩

set_option maxRecDepth 100000 in
set_option maxHeartbeats 1000000 in
theorem rtext_any (x : Nat) (w : World) (hx : x < 2199023255552) :
    Calls Tryd.prog 13 #[.int .i64 x] w fun e w' => e = .returned (.string ⟨(tx x).toArray⟩) ∧ w = w' := by
  have hsz := dec_size (x / 2) (by omega)
  have hx2 : x / 2 < 9223372036854775808 := by omega
  have hd : ∀ w, Calls Tryd.prog 21 #[.int .i64 ((x : Int) / 2)] w fun e w' => e = .returned (.string ⟨(decDigits (x / 2)).toArray⟩) ∧ w = w' := fun w => by
    have := decimal_any (x / 2) (x / 2) w (Nat.le_refl _) hx2
    rwa [show ((x / 2 : Nat) : Int) = (x : Int) / 2 by omega] at this
  have HD := Lib.hid hd
  clear hd
  rcases Nat.mod_two_eq_zero_or_one x with h2 | h2
  · have e2 : ((x : Int) % 2 == 1) = false := beq_eq_false_iff_ne.2 (by omega)
    rw [tx_even h2]
    clear h2
    go_enter Tryd.func13, Tryd.ntmps13
    go_wp2_with (go_at_call 21; refine (HD.out _).mono ?_; rintro e w' ⟨rfl, rfl⟩)
    go_ret
    exact ⟨by rw [str_cons]; rfl, rfl⟩
  · have e2 : ((x : Int) % 2 == 1) = true := beq_iff_eq.2 (by omega)
    rw [tx_odd h2]
    clear h2
    go_enter Tryd.func13, Tryd.ntmps13
    go_wp2_with (go_at_call 21; refine (HD.out _).mono ?_; rintro e w' ⟨rfl, rfl⟩)
    go_ret
    exact ⟨by rw [str_cons]; rfl, rfl⟩

end Go.Proofs.YtkaildgbjokmnaaDoor
