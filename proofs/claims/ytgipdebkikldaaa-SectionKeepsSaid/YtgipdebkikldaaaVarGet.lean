/-
  Decoding: the program's Get and the reference's Get both return what getS computes, and leave memory as it was.
-/
import Derived.Test.YtgipdebkikldaaaBase
import Derived.Test.YtgipdebkikldaaaVarMath
namespace Go.Proofs.Ytgipdebkikldaaa
open Go.RowKit

set_option maxRecDepth 100000 in
set_option maxHeartbeats 1000000 in
theorem get_any (B : Nat) (A : Option Addr) (l : List Nat) (cap : Nat) (w : World) (hs : Sees w B A (bts l)) (hb : Byt l) (hm : l.length ≤ maxLen) :
    Calls Try.prog 42 #[.slice A l.length cap] w fun e w' => e = .returned (.tuple #[.int .u64 (getS l).1, .int .i64 (getS l).2.1, .int .i64 (getS l).2.2]) ∧ w = w' := by
  unfold maxLen at hm
  go_enter Try.func42, Try.ntmps42
  go_wp2
  go_loop [5, 10] (fun v i => ∃ k u : Nat, k ≤ l.length ∧ k ≤ 9 ∧ i = .int .i64 k ∧ v = .int .u64 u ∧ GetAt l k u) (fun _ i => l.length - (intOf i).toNat)
  case atStart => exact ⟨0, 0, Nat.zero_le _, by omega, rfl, rfl, GetAt.zero l⟩
  case round =>
    obtain ⟨k, u, hk, hk9, rfl, rfl, hat⟩ := hrel
    by_cases hlt : k < l.length
    · obtain ⟨b, o, rfl, _, hc⟩ := hs (bts_ne hlt)
      have hcell : w.cell? ⟨b, o + k, none⟩ = some (.int .u8 (l[k] : Int)) := hc k _ (by simp [bts, hlt])
      have hx : l[k] < 256 := hb _ (List.getElem_mem hlt)
      have hbad := hat.bad hlt
      have hlast := hat.last hlt
      have hmore := fun h1 h2 => GetAt.more hat hlt h1 h2 hx
      have hor := or_step (k := k) (x := l[k]) hk9 hat.2.1 hx
      clear hc hs hb
      generalize l[k] = x at hcell hx hbad hlast hmore hor
      have HB := Lib.hid hbad; have HL := Lib.hid hlast; have HM := Lib.hid hmore; have HO := Lib.hid hor
      clear hbad hlast hmore hor
      rcases ways8 k x hk9 with ⟨h1, h2⟩ | ⟨h1, h2⟩ | ⟨h1, h2⟩ | ⟨h1, h2, h3⟩ | ⟨h1, h2, h3, h4⟩ | ⟨h1, h2, h3⟩ | ⟨h1, h2⟩ | ⟨h1, h2⟩
      · have e9 : ((k : Int) == 9) = true := beq_iff_eq.2 (by omega)
        have g1 : (1 : Int) < x := by omega
        have HE := Lib.hid (HB.out (.inl ⟨h1, h2⟩))
        clear h1 h2 hk9
        go_wp2
        go_ret3
        exact ⟨by rw [HE.out]; rfl, rfl⟩
      · have e9 : ((k : Int) == 9) = true := beq_iff_eq.2 (by omega)
        have HE := Lib.hid (HB.out (.inr ⟨by omega, h2⟩))
        have hk0 : (0 : Int) < k := by omega
        subst h2
        clear h1 hk9 HB HL HM HO
        go_wp2
        go_ret3
        exact ⟨by rw [HE.out]; rfl, rfl⟩
      · have e9 : ((k : Int) == 9) = true := beq_iff_eq.2 (by omega)
        have HE := Lib.hid (HL.out (by omega) (by omega))
        have HO' := Lib.hid (HO.out (by omega))
        have hk0 : (0 : Int) < k := by omega
        subst h2
        clear h1 HB HL HM HO
        go_wp2
        go_ret3
        exact ⟨by rw [HE.out]; exact tup3 HO'.out rfl rfl, rfl⟩
      · have e9 : ((k : Int) == 9) = false := beq_eq_false_iff_ne.2 (by omega)
        have HE := Lib.hid (HB.out (.inr ⟨h1, h3⟩))
        subst h3
        clear HB HL HM HO
        go_wp2
        go_ret3
        exact ⟨by rw [HE.out]; rfl, rfl⟩
      · have e9 : ((k : Int) == 9) = false := beq_eq_false_iff_ne.2 (by omega)
        have e0 : ((x : Int) == 0) = false := beq_eq_false_iff_ne.2 (by omega)
        have HE := Lib.hid (HL.out (by omega) h4)
        have HO' := HO.out (by omega)
        rw [Nat.mod_eq_of_lt h4] at HO'
        have HO'' := Lib.hid HO'
        clear HB HL HM HO HO'
        go_wp2
        go_ret3
        exact ⟨by rw [HE.out]; exact tup3 HO''.out rfl rfl, rfl⟩
      · have e9 : ((k : Int) == 9) = false := beq_eq_false_iff_ne.2 (by omega)
        have e0 : ((x : Int) == 0) = false := beq_eq_false_iff_ne.2 (by omega)
        have HE := Lib.hid (HM.out (by omega) (by omega))
        have HO' := HO.out (by omega)
        rw [show x % 128 = x - 128 by omega] at HO'
        have HO'' := Lib.hid HO'
        clear HB HL HM HO HO'
        go_wp2
        go_round
        case rel => exact ⟨k + 1, _, by omega, by omega, by go_num, congrArg (Value.int .u64) HO''.out, HE.out⟩
        case measure => simp [intOf]; omega
      · have e9 : ((k : Int) == 9) = false := beq_eq_false_iff_ne.2 (by omega)
        have e0 : decide ((0 : Int) < k) = false := by simp; omega
        have HE := Lib.hid (HL.out (by omega) h2)
        have HO' := HO.out (by omega)
        rw [Nat.mod_eq_of_lt h2] at HO'
        have HO'' := Lib.hid HO'
        have hk0 : (k : Int) ≤ 0 := by omega
        clear HB HL HM HO HO' h1
        go_wp2
        go_ret3
        exact ⟨by rw [HE.out]; exact tup3 HO''.out rfl rfl, rfl⟩
      · have e9 : ((k : Int) == 9) = false := beq_eq_false_iff_ne.2 (by omega)
        have e0 : decide ((0 : Int) < k) = false := by simp; omega
        have HE := Lib.hid (HM.out (by omega) (by omega))
        have HO' := HO.out (by omega)
        rw [show x % 128 = x - 128 by omega] at HO'
        have HO'' := Lib.hid HO'
        have hk0 : (k : Int) ≤ 0 := by omega
        clear HB HL HM HO HO' h1
        go_wp2
        go_round
        case rel => exact ⟨k + 1, _, by omega, by omega, by go_num, congrArg (Value.int .u64) HO''.out, HE.out⟩
        case measure => simp [intOf]; omega
    · have HE := Lib.hid (hat.short hlt)
      clear hat
      go_wp2
      go_ret3
      exact ⟨by rw [HE.out]; rfl, rfl⟩

end Go.Proofs.Ytgipdebkikldaaa
