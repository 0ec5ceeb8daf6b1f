/-
  Moves, of the program and of the reference.
-/
import Derived.Test.YtcimjghejclknaaMacIns
import Derived.Deep.LoopGhost
namespace Go.Proofs.Ytcimjghejclknaa
open Go.RowKit
set_option linter.unusedVariables false

set_option maxRecDepth 100000 in
set_option maxHeartbeats 1000000 in
theorem rmoves_any (B : Nat) (A : Option Addr) (xs : List Mi) (c : Nat) (w : World) (hs : MisAt w B A xs) (hm : xs.length ≤ 1000000) :
    Calls Try.prog 33 #[.slice A xs.length c] w fun e w' => e = .returned (.int .i64 (mvs xs : Nat)) ∧ w = w' := by
  have HS := Lib.hid hs
  clear hs
  go_enter Try.func33, Try.ntmps33
  go_wp2
  go_loopg [3, 4] xs.length (fun g a i wr => ∃ (k most : Nat), k + g = xs.length ∧ i = .int .i64 k ∧ a = .int .i64 most ∧ most ≤ xs.length ∧ Hid (mvs xs = max most (mvs (xs.drop k))) ∧ wr = w)
  case atStart => exact ⟨0, 0, by omega, rfl, rfl, Nat.zero_le _, by rw [Hid, List.drop_zero]; omega, rfl⟩
  case round =>
    obtain ⟨k, most, hkg, rfl, rfl, hmost, HT, rfl⟩ := hrel
    cases gk with
    | zero =>
      obtain rfl : k = xs.length := by omega
      rw [List.drop_length] at HT
      have HT2 : Hid (mvs xs = most) := by rw [Hid, HT.out, mvs]; omega
      go_wp2
      go_ret
      exact ⟨by rw [HT2.out]; rfl, rfl⟩
    | succ g =>
      have hlt : k < xs.length := by omega
      have HM : Hid (mvs (xs.drop k) = max (lead (xs.drop k)) (mvs (xs.drop (k + 1)))) := by rw [Hid, List.drop_eq_getElem_cons hlt]; rfl
      go_wp2
      go_loopg [5] (xs.length - k) (fun g2 n wx => ∃ m : Nat, k + m + g2 = xs.length ∧ n = .int .i64 m ∧ Hid (lead (xs.drop k) = m + lead (xs.drop (k + m))) ∧ wx = wr)
      case atStart => exact ⟨0, by omega, rfl, by rw [Hid]; simp, rfl⟩
      case round =>
        obtain ⟨m, hmg, rfl, HL, rfl⟩ := hrel
        cases gk with
        | zero =>
          have hkm : k + m = xs.length := by omega
          have HL2 : Hid (lead (xs.drop k) = m) := by rw [Hid, HL.out, hkm, List.drop_length]; rfl
          have HN : Hid (mvs xs = max (max most m) (mvs (xs.drop (k + 1)))) := by rw [Hid, HT.out, HM.out, HL2.out]; omega
          by_cases hgt : most < m
          · go_wp2
            go_roundg g
            case measure => omega
            case rel => exact ⟨k + 1, m, by omega, by go_num, rfl, by omega, by rw [Hid, HN.out]; omega, rfl⟩
          · go_wp2
            go_roundg g
            case measure => omega
            case rel => exact ⟨k + 1, most, by omega, by go_num, rfl, by omega, by rw [Hid, HN.out]; omega, rfl⟩
        | succ g2 =>
          have hlm : k + m < xs.length := by omega
          obtain ⟨b, o, rfl, hb, hat⟩ := HS.out.at_ hlm
          have hc0 := hat.c0
          have HD : Hid (lead (xs.drop (k + m)) = if xs[k + m].mv then lead (xs.drop (k + m + 1)) + 1 else 0) := by rw [Hid, List.drop_eq_getElem_cons hlm]; rfl
          clear hat
          generalize xs[k + m] = y at *
          have hmv : y.mv = (y.op == 18) := rfl
          cases h18 : (y.op == 18)
          · have HL2 : Hid (lead (xs.drop k) = m) := by rw [Hid, HL.out, HD.out, hmv, h18]; rfl
            have HN : Hid (mvs xs = max (max most m) (mvs (xs.drop (k + 1)))) := by rw [Hid, HT.out, HM.out, HL2.out]; omega
            clear hmv
            by_cases hgt : most < m
            · go_wp2
              go_roundg g
              case measure => omega
              case rel => exact ⟨k + 1, m, by omega, by go_num, rfl, by omega, by rw [Hid, HN.out]; omega, rfl⟩
            · go_wp2
              go_roundg g
              case measure => omega
              case rel => exact ⟨k + 1, most, by omega, by go_num, rfl, by omega, by rw [Hid, HN.out]; omega, rfl⟩
          · have HL2 : Hid (lead (xs.drop k) = m + 1 + lead (xs.drop (k + (m + 1)))) := by rw [Hid, HL.out, HD.out, hmv, h18, if_pos rfl, Nat.add_assoc k m 1]; omega
            clear hmv
            go_wp2
            go_roundg g2
            case measure => omega
            case rel => exact ⟨m + 1, by omega, by go_num, HL2.out, rfl⟩

end Go.Proofs.Ytcimjghejclknaa
