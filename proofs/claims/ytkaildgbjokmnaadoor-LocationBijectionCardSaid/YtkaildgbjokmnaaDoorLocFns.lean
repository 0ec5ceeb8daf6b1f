/-
  The program's functions on registers, slots and numerals, and what they return.
-/
import Derived.Test.YtkaildgbjokmnaaDoorLocMath
import Derived.Test.YtkaildgbjokmnaaDoorLocItoa
import Derived.LoopTactic
import Derived.Laws.RangeString
import Derived.Laws.RangeAny
namespace Go.Proofs.YtkaildgbjokmnaaDoor
open Go.RowKit
open Go.Lib (decDigits)

theorem ba_get (s : ByteArray) (i : Nat) (h : i < s.size) : s[i] = s.data.toList[i]'(by simpa using h) := by
  simp
  rfl
theorem ba_len (s : ByteArray) : s.data.toList.length = s.size := by simp

/-- Whether a location is in range. -/
def inS (l r s : Int) : Bool := if l < 0 then false else if l % 2 = 1 then decide (l / 2 < s) else decide (l / 2 < r)

set_option maxRecDepth 100000 in
theorem reg_any (n : Nat) (w : World) (h : n < 1099511627776) :
    Calls Tryd.prog 16 #[.int .i64 n] w fun e w' => e = .returned (.int .i64 ((2 * n : Nat) : Int)) ∧ w = w' := by
  go_enter Tryd.func16, Tryd.ntmps16
  go_wp2
  go_ret
  exact ⟨ret1 (by omega), rfl⟩

set_option maxRecDepth 100000 in
theorem slot_any (n : Nat) (w : World) (h : n < 1099511627776) :
    Calls Tryd.prog 17 #[.int .i64 n] w fun e w' => e = .returned (.int .i64 ((2 * n + 1 : Nat) : Int)) ∧ w = w' := by
  go_enter Tryd.func17, Tryd.ntmps17
  go_wp2
  go_ret
  exact ⟨ret1 (by omega), rfl⟩

set_option maxRecDepth 100000 in
theorem isslot_int (l : Int) (b : Bool) (w : World) (h0 : 0 ≤ l) (h : l ≤ 9223372036854775807) (hb : b = decide (l % 2 = 1)) :
    Calls Tryd.prog 10 #[.int .i64 l] w fun e w' => e = .returned (.bool b) ∧ w = w' := by
  go_enter Tryd.func10, Tryd.ntmps10
  go_wp2
  go_ret
  refine ⟨?_, rfl⟩
  have e : (l % 2 != 0) = b := by
    rw [hb]
    rcases (by omega : l % 2 = 0 ∨ l % 2 = 1) with h1 | h1
    · rw [h1]; rfl
    · rw [h1]; rfl
  exact congrArg (fun x => Ending.returned (Value.bool x)) e
theorem isslot_any (l : Nat) (b : Bool) (w : World) (h : l < 9223372036854775808) (hb : b = decide (l % 2 = 1)) :
    Calls Tryd.prog 10 #[.int .i64 l] w fun e w' => e = .returned (.bool b) ∧ w = w' :=
  isslot_int l b w (by omega) (by omega) (by rw [hb]; congr 1; exact propext ⟨fun h => by omega, fun h => by omega⟩)

set_option maxRecDepth 100000 in
theorem index_int (l : Int) (w : World) (h0 : 0 ≤ l) (h : l ≤ 9223372036854775807) :
    Calls Tryd.prog 11 #[.int .i64 l] w fun e w' => e = .returned (.int .i64 (l / 2)) ∧ w = w' := by
  go_enter Tryd.func11, Tryd.ntmps11
  go_wp2
  go_ret
  exact ⟨rfl, rfl⟩
theorem index_any (l : Nat) (w : World) (h : l < 9223372036854775808) :
    Calls Tryd.prog 11 #[.int .i64 l] w fun e w' => e = .returned (.int .i64 ((l / 2 : Nat) : Int)) ∧ w = w' := by
  refine (index_int l w (by omega) (by omega)).mono ?_
  rintro e w' ⟨rfl, rfl⟩
  exact ⟨ret1 (by omega), rfl⟩

theorem iter_below (w : World) (s : ByteArray) (pos : Nat) : Below w.heap.size w (w.iter s pos) := (Below.refl _ _).alloc (Nat.le_refl _) _
theorem tup2 {n m : Int} {a b : Bool} (h1 : n = m) (h2 : a = b) : Ending.returned (.tuple #[.int .i64 n, .bool a]) = .returned (.tuple #[.int .i64 m, .bool b]) := by rw [h1, h2]
theorem no2 {l : List UInt8} (h : ¬ Num l) : Ending.returned (.tuple #[.int .i64 0, .bool false]) = .returned (.tuple #[.int .i64 (nv l), .bool (nk l)]) := by
  rw [nv_no h, nk_no h]; rfl

theorem ways5 (x k pos : Nat) (hk : pos = 0 → k = 0) :
    (x < 48) ∨ (48 ≤ x ∧ 57 < x) ∨ (48 ≤ x ∧ x ≤ 57 ∧ 0 < pos ∧ k = 0) ∨ (48 ≤ x ∧ x ≤ 57 ∧ 0 < pos ∧ k ≠ 0 ∧ 1099511627776 ≤ 10 * k + (x - 48)) ∨
      (48 ≤ x ∧ x ≤ 57 ∧ 0 < pos ∧ k ≠ 0 ∧ 10 * k + (x - 48) < 1099511627776) ∨ (48 ≤ x ∧ x ≤ 57 ∧ pos = 0 ∧ k = 0) := by omega

set_option maxRecDepth 100000 in
set_option maxHeartbeats 1000000 in
theorem parseIndex_any (s : ByteArray) (w : World) (hs : s.size ≤ maxLen) :
    Calls Tryd.prog 18 #[.string s] w fun e w' => e = .returned (.tuple #[.int .i64 (nv s.data.toList), .bool (nk s.data.toList)]) ∧ Below w.heap.size w w' := by
  unfold maxLen at hs
  have hlen := ba_len s
  go_enter Tryd.func18, Tryd.ntmps18
  go_wp2
  go_loopw [4] (fun n w' => ∃ pos k : Nat, w' = w.iter s pos ∧ n = .int .i64 k ∧ At s.data.toList pos k) (fun _ w' => s.size - w'.iterPos w.heap.size)
  case atStart => exact ⟨0, 0, rfl, rfl, At.zero _⟩
  case round =>
    obtain ⟨pos, k, rfl, rfl, hat⟩ := hrel
    have hk40 := hat.small
    by_cases hp : pos < s.size
    · have hl : pos < s.data.toList.length := by omega
      have hx : (s[pos]'hp).toNat = s.data.toList[pos].toNat := by rw [ba_get]
      by_cases ha : (s[pos]'hp).toNat < 128
      · have hnx : ∀ ty, (Instr.next (.pointer (some ⟨w.heap.size, 0, none⟩)) true ty).run Tryd.prog (w.iter s pos) = _ := fun ty => run_next_ascii w s pos ty hp ha
        have hbad := hat.bad hl
        have hzer := hat.zeros hl
        have hbig := hat.big hl
        have hmore := hat.more hl
        have hfirst : pos = 0 → k = 0 := fun e => by subst e; exact hat.first
        clear hat
        generalize s.data.toList[pos] = c at hx hbad hzer hbig hmore
        generalize (s[pos]'hp).toNat = x at hx hnx ha
        subst hx
        have HB := Lib.hid hbad; have HZ := Lib.hid hzer; have HG := Lib.hid hbig; have HM := Lib.hid hmore
        clear hbad hzer hbig hmore hl
        rcases ways5 c.toNat k pos hfirst with h1 | ⟨h1, h2⟩ | ⟨h1, h2, h3, h4⟩ | ⟨h1, h2, h3, h4, h5⟩ | ⟨h1, h2, h3, h4, h5⟩ | ⟨h1, h2, h3, h4⟩
        · have HN := Lib.hid (HB.out (by omega))
          clear hfirst
          go_wp2
          go_ret2
          exact ⟨no2 HN.out, iter_below _ _ _⟩
        · have HN := Lib.hid (HB.out (by omega))
          clear hfirst
          go_wp2
          go_ret2
          exact ⟨no2 HN.out, iter_below _ _ _⟩
        · have HN := Lib.hid (HZ.out h3 h4)
          subst h4
          clear hfirst
          go_wp2
          go_ret2
          exact ⟨no2 HN.out, iter_below _ _ _⟩
        · have HN := Lib.hid (HG.out h5)
          have hk0 : ((k : Int) == 0) = false := beq_eq_false_iff_ne.2 (by omega)
          clear hfirst
          go_wp2
          go_ret2
          exact ⟨no2 HN.out, iter_below _ _ _⟩
        · have HN := Lib.hid (HM.out h1 h2 (.inr h4) h5)
          have hk0 : ((k : Int) == 0) = false := beq_eq_false_iff_ne.2 (by omega)
          clear hfirst
          go_wp2
          go_roundw
          case rel => exact ⟨pos + 1, _, rfl, by go_num, HN.out⟩
          case measure => simp; omega
        · subst h3; subst h4
          have HN := Lib.hid (HM.out h1 h2 (.inl rfl) (by omega))
          clear hfirst
          go_wp2
          go_roundw
          case rel => exact ⟨0 + 1, _, rfl, by go_num, HN.out⟩
          case measure => simp; omega
      · have hd := decode_high s pos hp (by omega)
        have hnx : ∀ ty, (Instr.next (.pointer (some ⟨w.heap.size, 0, none⟩)) true ty).run Tryd.prog (w.iter s pos) = _ := fun ty => run_next_any w s pos ty hp
        have hno := hat.bad hl (by omega)
        clear hat
        generalize Utf8.decode s pos = d at hd hnx
        obtain ⟨d1, d2⟩ := d
        simp only at hd hnx
        have HN := Lib.hid hno
        clear hno
        go_wp2
        go_ret2
        exact ⟨no2 HN.out, iter_below _ _ _⟩
    · have hnx : ∀ ty, (Instr.next (.pointer (some ⟨w.heap.size, 0, none⟩)) true ty).run Tryd.prog (w.iter s pos) = _ := fun ty => run_next_end w s pos ty hp
      have hd := hat.done (by omega)
      rw [← ByteArray.toList_eq] at hd
      have HD := Lib.hid hd
      clear hat hd
      go_wp2
      go_ret2
      have hd := HD.out
      rw [ByteArray.toList_eq] at hd
      rw [← ByteArray.toList_eq] at hd ⊢
      exact ⟨tup2 (congrArg Int.ofNat hd.1) hd.2, iter_below _ _ _⟩

end Go.Proofs.YtkaildgbjokmnaaDoor
