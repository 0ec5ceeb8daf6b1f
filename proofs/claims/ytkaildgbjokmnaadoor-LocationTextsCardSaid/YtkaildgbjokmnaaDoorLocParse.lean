/-
  The reference's Number and Parse, and the program's Parse: both read the text of a location.
-/
import Derived.Test.YtkaildgbjokmnaaDoorLocTxt
namespace Go.Proofs.YtkaildgbjokmnaaDoor
open Go.RowKit

theorem idx_str {P : Program} (t : TypeId) (ht : P.underlying t = some .string) (s : ByteArray) (z : Int) (i : Nat) (hz : z = (i : Int)) (x : Nat) (hi : i < s.data.toList.length) (hx : x = s.data.toList[i].toNat) (w : World) :
    (Instr.index t (.string s) (.int .i64 z)).run P w = .ok (.int .u8 (x : Int)) w := by
  subst hz; subst hx
  have hs : i < s.size := by simpa using hi
  rw [run_index_string w t s .i64 _ ht, dif_pos ⟨by omega, by omega⟩]
  have e : ((i : Int)).toNat = i := by omega
  simp only [e]
  rw [ba_get]

theorem num_iff2 {l : List UInt8} {m : Nat} (h1 : m = dv l) (h2 : Num l ↔ m < 1099511627776) :
    (m < 1099511627776 → Ending.returned (.tuple #[.int .i64 m, .bool true]) = .returned (.tuple #[.int .i64 (nv l), .bool (nk l)])) ∧ (¬ m < 1099511627776 → ¬ Num l) :=
  ⟨fun h => by have hn := h2.2 h; rw [nk_yes hn, nv_yes hn, h1], fun h hn => h (h2.1 hn)⟩
theorem ways3 (x : Nat) : x < 48 ∨ (48 ≤ x ∧ 57 < x) ∨ (48 ≤ x ∧ x ≤ 57) := by omega
theorem num_len {l : List UInt8} (h : Num l) : 0 < l.length := by
  rcases l with _ | ⟨x, l⟩
  · exact absurd rfl h.1
  · simp

set_option maxRecDepth 100000 in
set_option maxHeartbeats 1000000 in
theorem number_any (s : ByteArray) (w : World) (hs : s.size ≤ maxLen) :
    Calls Tryd.prog 19 #[.string s] w fun e w' => e = .returned (.tuple #[.int .i64 (nv s.data.toList), .bool (nk s.data.toList)]) ∧ w = w' := by
  unfold maxLen at hs
  have hlen := ba_len s
  rcases (by omega : s.size = 0 ∨ 13 < s.size ∨ (s.size = 1) ∨ (1 < s.size ∧ s.size ≤ 13)) with h0 | h13 | h1 | ⟨h1, h2⟩
  · have hno : Hid (¬ Num s.data.toList) := Lib.hid fun h => by have := num_len h; omega
    go_enter Tryd.func19, Tryd.ntmps19
    go_wp2
    go_ret2
    exact ⟨no2 hno.out, rfl⟩
  · have hno : Hid (¬ Num s.data.toList) := Lib.hid fun h => by have := h.short; omega
    have hz : ((s.size : Int) == 0) = false := beq_eq_false_iff_ne.2 (by omega)
    go_enter Tryd.func19, Tryd.ntmps19
    go_wp2
    go_ret2
    exact ⟨no2 hno.out, rfl⟩
  · have hlead : Hid (Lead s.data.toList) := Lib.hid fun h => by omega
    have hz : ((s.size : Int) == 0) = false := beq_eq_false_iff_ne.2 (by omega)
    go_enter Tryd.func19, Tryd.ntmps19
    go_wp2
    go_loop [4, 5] (fun n i => ∃ k m : Nat, i = .int .i64 k ∧ n = .int .i64 m ∧ RAt s.data.toList k m) (fun _ i => s.size - (intOf i).toNat)
    case atStart => exact ⟨0, 0, rfl, rfl, RAt.zero _⟩
    case round =>
      obtain ⟨k, m, rfl, rfl, hat⟩ := hrel
      have hm := hat.lt (by omega)
      by_cases hp : k < s.size
      · have hl : k < s.data.toList.length := by omega
        have hbad := hat.bad hl
        have hmore := hat.more hl
        have hix := fun w => idx_str (P := Tryd.prog) 9 Tryd.underlying9 s k k rfl s.data.toList[k].toNat hl rfl w
        clear hat
        have hx256 : s.data.toList[k].toNat < 256 := s.data.toList[k].toNat_lt
        generalize s.data.toList[k].toNat = x at hbad hmore hix hx256
        have HB := Lib.hid hbad; have HM := Lib.hid hmore
        clear hbad hmore hl
        rcases ways3 x with e1 | ⟨e1, e2⟩ | ⟨e1, e2⟩
        · have HN := Lib.hid (HB.out (by omega))
          go_wp2
          go_ret2
          exact ⟨no2 HN.out, rfl⟩
        · have HN := Lib.hid (HB.out (by omega))
          go_wp2
          go_ret2
          exact ⟨no2 HN.out, rfl⟩
        · have HN := Lib.hid (HM.out e1 e2)
          go_wp2
          go_round
          case rel => exact ⟨k + 1, _, by go_num, by go_num, HN.out⟩
          case measure => simp [intOf]; omega
      · have hd := hat.done (by omega) (by omega) hlead.out
        obtain ⟨hd1, hd2⟩ := hd
        have hm2 := num_iff2 hd1 hd2
        have HD := Lib.hid hm2
        clear hat hd1 hd2 hm2
        by_cases hb : m < 1099511627776
        · have HE := Lib.hid (HD.out.1 hb)
          have hbI : decide ((1099511627776 : Int) ≤ m) = false := decide_eq_false (by omega)
          clear hb hm HD
          go_wp2
          go_ret2
          exact ⟨HE.out, rfl⟩
        · have HE := Lib.hid (HD.out.2 hb)
          have hbI : (1099511627776 : Int) ≤ m := by omega
          clear hb hm HD
          go_wp2
          go_ret2
          exact ⟨no2 HE.out, rfl⟩
  · have hl : 0 < s.data.toList.length := by omega
    have hz : ((s.size : Int) == 0) = false := beq_eq_false_iff_ne.2 (by omega)
    have hix0 := fun w => idx_str (P := Tryd.prog) 9 Tryd.underlying9 s 0 0 rfl s.data.toList[0].toNat hl rfl w
    have hx256 : s.data.toList[0].toNat < 256 := s.data.toList[0].toNat_lt
    have hh : s.data.toList.head? = some s.data.toList[0] := by
      rw [List.head?_eq_getElem?, List.getElem?_eq_getElem hl]
    by_cases hc : s.data.toList[0].toNat = 48
    · have hno : Hid (¬ Num s.data.toList) := Lib.hid fun h => h.2.2.1 (by omega) (by rw [hh]; exact congrArg some (UInt8.toNat_inj.1 (by rw [hc]; rfl)))
      rw [hc] at hix0
      clear hh hc hx256
      go_enter Tryd.func19, Tryd.ntmps19
      go_wp2
      go_ret2
      exact ⟨no2 hno.out, rfl⟩
    have hlead : Hid (Lead s.data.toList) := Lib.hid fun h e => hc (by
      have := Option.some.inj (hh.symm.trans e)
      rw [this]; rfl)
    have hne : ((s.data.toList[0].toNat : Int) == 48) = false := beq_eq_false_iff_ne.2 (by omega)
    clear hh hc
    generalize s.data.toList[0].toNat = x0 at hix0 hne hx256
    go_enter Tryd.func19, Tryd.ntmps19
    go_wp2
    go_loop [4, 5] (fun n i => ∃ k m : Nat, i = .int .i64 k ∧ n = .int .i64 m ∧ RAt s.data.toList k m) (fun _ i => s.size - (intOf i).toNat)
    case atStart => exact ⟨0, 0, rfl, rfl, RAt.zero _⟩
    case round =>
      obtain ⟨k, m, rfl, rfl, hat⟩ := hrel
      have hm := hat.lt (by omega)
      by_cases hp : k < s.size
      · have hl : k < s.data.toList.length := by omega
        have hbad := hat.bad hl
        have hmore := hat.more hl
        have hix := fun w => idx_str (P := Tryd.prog) 9 Tryd.underlying9 s k k rfl s.data.toList[k].toNat hl rfl w
        clear hat
        have hx256 : s.data.toList[k].toNat < 256 := s.data.toList[k].toNat_lt
        generalize s.data.toList[k].toNat = x at hbad hmore hix hx256
        have HB := Lib.hid hbad; have HM := Lib.hid hmore
        clear hbad hmore hl
        rcases ways3 x with e1 | ⟨e1, e2⟩ | ⟨e1, e2⟩
        · have HN := Lib.hid (HB.out (by omega))
          go_wp2
          go_ret2
          exact ⟨no2 HN.out, rfl⟩
        · have HN := Lib.hid (HB.out (by omega))
          go_wp2
          go_ret2
          exact ⟨no2 HN.out, rfl⟩
        · have HN := Lib.hid (HM.out e1 e2)
          go_wp2
          go_round
          case rel => exact ⟨k + 1, _, by go_num, by go_num, HN.out⟩
          case measure => simp [intOf]; omega
      · have hd := hat.done (by omega) (by omega) hlead.out
        obtain ⟨hd1, hd2⟩ := hd
        have hm2 := num_iff2 hd1 hd2
        have HD := Lib.hid hm2
        clear hat hd1 hd2 hm2
        by_cases hb : m < 1099511627776
        · have HE := Lib.hid (HD.out.1 hb)
          have hbI : decide ((1099511627776 : Int) ≤ m) = false := decide_eq_false (by omega)
          clear hb hm HD
          go_wp2
          go_ret2
          exact ⟨HE.out, rfl⟩
        · have HE := Lib.hid (HD.out.2 hb)
          have hbI : (1099511627776 : Int) ≤ m := by omega
          clear hb hm HD
          go_wp2
          go_ret2
          exact ⟨no2 HE.out, rfl⟩

end Go.Proofs.YtkaildgbjokmnaaDoor
