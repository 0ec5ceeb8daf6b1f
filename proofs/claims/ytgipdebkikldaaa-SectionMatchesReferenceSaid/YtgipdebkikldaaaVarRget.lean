/-
  Decoding by the reference: the reference's Get returns what getS computes, and leaves memory as it was.
-/
import Derived.Test.YtgipdebkikldaaaVarGet
namespace Go.Proofs.Ytgipdebkikldaaa
open Go.RowKit

set_option maxRecDepth 100000 in
set_option maxHeartbeats 1000000 in
theorem rget_any (B : Nat) (A : Option Addr) (l : List Nat) (cap : Nat) (w : World) (hs : Sees w B A (bts l)) (hb : Byt l) (hm : l.length ≤ maxLen) :
    Calls Try.prog 21 #[.slice A l.length cap] w fun e w' => e = .returned (.tuple #[.int .u64 (getS l).1, .int .i64 (getS l).2.1, .int .i64 (getS l).2.2]) ∧ w = w' := by
  unfold maxLen at hm
  go_enter Try.func21, Try.ntmps21
  go_wp2
  go_loop [5, 6, 7] (fun v p i => ∃ k u q : Nat, k ≤ l.length ∧ k ≤ 9 ∧ i = .int .i64 k ∧ v = .int .u64 u ∧ p = .int .u64 q ∧ GetAt l k u ∧ Hid (q = 128 ^ k)) (fun _ _ i => l.length - (intOf i).toNat)
  case atStart => exact ⟨0, 0, 1, Nat.zero_le _, by omega, rfl, rfl, rfl, GetAt.zero l, rfl⟩
  case round =>
    obtain ⟨k, u, q, hk, hk9, rfl, rfl, rfl, hat, HQ⟩ := hrel
    by_cases hlt : k < l.length
    · obtain ⟨b, o, rfl, _, hc⟩ := hs (bts_ne hlt)
      have hcell : w.cell? ⟨b, o + k, none⟩ = some (.int .u8 (l[k] : Int)) := hc k _ (by simp [bts, hlt])
      have hx : l[k] < 256 := hb _ (List.getElem_mem hlt)
      have hbad := hat.bad hlt
      have hlast := hat.last hlt
      have hmore := fun h1 h2 => GetAt.more hat hlt h1 h2 hx
      clear hc hs hb
      generalize l[k] = x at hcell hx hbad hlast hmore
      have HB := Lib.hid hbad; have HL := Lib.hid hlast; have HM := Lib.hid hmore
      clear hbad hlast hmore
      rcases ways8 k x hk9 with ⟨h1, h2⟩ | ⟨h1, h2⟩ | ⟨h1, h2⟩ | ⟨h1, h2, h3⟩ | ⟨h1, h2, h3, h4⟩ | ⟨h1, h2, h3⟩ | ⟨h1, h2⟩ | ⟨h1, h2⟩
      · have e9 : ((k : Int) == 9) = true := beq_iff_eq.2 (by omega)
        have g1 : (1 : Int) < x := by omega
        have HE := Lib.hid (HB.out (.inl ⟨h1, h2⟩))
        clear h1 h2 hk9
        go_wp2
        go_ret3
        exact ⟨by rw [HE.out]; rfl, rfl⟩
      · have e9 : ((k : Int) == 9) = true := beq_iff_eq.2 (by omega)
        have HE := Lib.hid (HB.out (.inr ⟨by omega, h2⟩))
        have hk0 : (0 : Int) < k := by omega
        subst h2
        clear HB HL HM h1
        go_wp2
        go_ret3
        exact ⟨by rw [HE.out]; rfl, rfl⟩
      · have e9 : ((k : Int) == 9) = true := beq_iff_eq.2 (by omega)
        have e0 : ((x : Int) == 0) = false := beq_eq_false_iff_ne.2 (by omega)
        have e1 : decide ((1 : Int) < x) = false := by simp; omega
        have hk0 : (0 : Int) < k := by omega
        have HE := Lib.hid (HL.out (by omega) (by omega))
        have HO := Lib.hid (mul_last (x := x) hk9 hat.2.1 (by omega) (by omega) HQ.out)
        have hx0 : (x : Int) < 128 := by omega
        have hx0' : x < 128 := by omega
        clear HB HL HM h1 h2
        go_wp2
        go_ret3
        exact ⟨by rw [HE.out]; exact tup3 HO.out rfl rfl, rfl⟩
      · have e9 : ((k : Int) == 9) = false := beq_eq_false_iff_ne.2 (by omega)
        have HE := Lib.hid (HB.out (.inr ⟨by omega, h3⟩))
        have hk0 : (0 : Int) < k := by omega
        subst h3
        clear HB HL HM
        go_wp2
        go_ret3
        exact ⟨by rw [HE.out]; rfl, rfl⟩
      · have e9 : ((k : Int) == 9) = false := beq_eq_false_iff_ne.2 (by omega)
        have e0 : ((x : Int) == 0) = false := beq_eq_false_iff_ne.2 (by omega)
        have HE := Lib.hid (HL.out (by omega) (by omega))
        have HO := Lib.hid (mul_last (x := x) hk9 hat.2.1 (by omega) (by omega) HQ.out)
        have hx0 : (x : Int) < 128 := by omega
        have hx0' : x < 128 := by omega
        clear HB HL HM
        go_wp2
        go_ret3
        exact ⟨by rw [HE.out]; exact tup3 HO.out rfl rfl, rfl⟩
      · have e9 : ((k : Int) == 9) = false := beq_eq_false_iff_ne.2 (by omega)
        have e0 : ((x : Int) == 0) = false := beq_eq_false_iff_ne.2 (by omega)
        have HE := Lib.hid (HM.out (by omega) (by omega))
        have HO := Lib.hid (mul_more (x := x) (by omega) hat.2.1 (by omega) hx HQ.out)
        have HP := Lib.hid (pow_more (by omega) HQ.out)
        have hx0 : (128 : Int) ≤ x := by omega
        clear HB HL HM
        go_wp2
        go_round
        case rel => exact ⟨k + 1, _, _, by omega, by omega, by go_num, congrArg (Value.int .u64) HO.out, congrArg (Value.int .u64) HP.out, HE.out, rfl⟩
        case measure => simp [intOf]; omega
      · have e9 : ((k : Int) == 9) = false := beq_eq_false_iff_ne.2 (by omega)
        have e0 : decide ((0 : Int) < k) = false := by simp; omega
        have hk0 : (k : Int) ≤ 0 := by omega
        have HE := Lib.hid (HL.out (by omega) (by omega))
        have HO := Lib.hid (mul_last (x := x) hk9 hat.2.1 (by omega) (by omega) HQ.out)
        have hx0 : (x : Int) < 128 := by omega
        have hx0' : x < 128 := by omega
        clear HB HL HM h1
        go_wp2
        go_ret3
        exact ⟨by rw [HE.out]; exact tup3 HO.out rfl rfl, rfl⟩
      · have e9 : ((k : Int) == 9) = false := beq_eq_false_iff_ne.2 (by omega)
        have e0 : decide ((0 : Int) < k) = false := by simp; omega
        have hk0 : (k : Int) ≤ 0 := by omega
        have HE := Lib.hid (HM.out (by omega) (by omega))
        have HO := Lib.hid (mul_more (x := x) (by omega) hat.2.1 (by omega) hx HQ.out)
        have HP := Lib.hid (pow_more (by omega) HQ.out)
        have hx0 : (128 : Int) ≤ x := by omega
        clear HB HL HM h1
        go_wp2
        go_round
        case rel => exact ⟨k + 1, _, _, by omega, by omega, by go_num, congrArg (Value.int .u64) HO.out, congrArg (Value.int .u64) HP.out, HE.out, rfl⟩
        case measure => simp [intOf]; omega
    · have HE := Lib.hid (hat.short hlt)
      clear hat
      go_wp2
      go_ret3
      exact ⟨by rw [HE.out]; rfl, rfl⟩

end Go.Proofs.Ytgipdebkikldaaa
