/-
  Moves, of the program and of the reference.
-/
import Derived.Test.YtcindgaonaloeaaMacIns
import Derived.Deep.LoopGhost
namespace Go.Proofs.Ytcindgaonaloeaa
open Go.RowKit
set_option linter.unusedVariables false

set_option maxRecDepth 100000 in
set_option maxHeartbeats 1000000 in
theorem moves_any (B : Nat) (A : Option Addr) (xs : List Mi) (c : Nat) (w : World) (hs : MisAt w B A xs) (hB : B ≤ w.heap.size) (hm : xs.length ≤ 1000000) :
    Calls Try.prog 9 #[.slice A xs.length c] w fun e w' => e = .returned (.int .i64 (mvs xs : Nat)) ∧ Below w.heap.size w w' := by
  go_enter Try.func9, Try.ntmps9
  go_wp2
  go_loopw [3, 4, 9] (fun a b i wr => ∃ (k run lon : Nat), k ≤ xs.length ∧ i = .int .i64 k ∧ a = .int .i64 run ∧ b = .int .i64 lon ∧ run ≤ lon ∧ lon ≤ k ∧ Hid (mvs xs = max lon (max (run + lead (xs.drop k)) (mvs (xs.drop k)))) ∧ Hid (Below w.heap.size w wr)) (fun _ _ i _ => xs.length - (intOf i).toNat)
  case atStart => exact ⟨0, 0, 0, Nat.zero_le _, rfl, rfl, rfl, Nat.le_refl _, Nat.le_refl _, by have := lead_mvs xs; rw [Hid, List.drop_zero]; omega, Below.refl _ _⟩
  case round =>
    obtain ⟨k, run, lon, hk, rfl, rfl, rfl, hrl, hlk, HT, HB⟩ := hrel
    by_cases hlt : k < xs.length
    · obtain ⟨b, o, rfl, hb, hat⟩ := ((hs.more hB).below HB.out).at_ hlt
      have hc0 := hat.c0; have hc1 := hat.c1; have hc2 := hat.c2; have hc3 := hat.c3; have hc4 := hat.c4; have hc5 := hat.c5; have hc6 := hat.c6
      have HS : Hid (mvs xs = max (max lon (ext run xs[k])) (max (ext run xs[k] + lead (xs.drop (k + 1))) (mvs (xs.drop (k + 1))))) := by
        rw [Hid, HT.out, List.drop_eq_getElem_cons hlt]
        exact scan_step run lon xs[k] _ hrl
      have HB1 := Lib.hid (HB.out.alloc HB.out.size (.cells #[.int .i64 xs[k].op, .int .i64 xs[k].d, .int .i64 xs[k].a, .int .i64 xs[k].b, .int .i64 xs[k].imm, .int .i64 xs[k].dst, .int .i64 xs[k].src] 27))
      have hx1 := ext_le run xs[k]
      have HX := Lib.hid (fun W => extend_any run xs[k] W (by omega))
      clear hat hs HT HB
      generalize ext run xs[k] = r2 at *
      generalize xs[k] = y at *
      go_wp2_with fail
      refine (HX.out _).mono ?_
      rintro e W1 ⟨rfl, hb1⟩
      have HB2 := Lib.hid (HB1.out.trans (hb1.mono HB1.out.size))
      clear hb1 HB1
      go_wp2
      go_roundw
      case rel => exact ⟨k + 1, r2, max lon r2, by omega, by go_num, rfl, by go_num, by omega, by omega, HS.out, HB2.out⟩
      case measure => simp [intOf]; omega
    · obtain rfl : k = xs.length := by omega
      rw [List.drop_length] at HT
      have HT2 : Hid (mvs xs = lon) := by rw [Hid, HT.out, lead, mvs]; omega
      go_wp2
      go_ret
      exact ⟨by rw [HT2.out]; rfl, HB.out⟩

set_option maxRecDepth 100000 in
set_option maxHeartbeats 1000000 in
theorem rmoves_any (B : Nat) (A : Option Addr) (xs : List Mi) (c : Nat) (w : World) (hs : MisAt w B A xs) (hm : xs.length ≤ 1000000) :
    Calls Try.prog 10 #[.slice A xs.length c] w fun e w' => e = .returned (.int .i64 (mvs xs : Nat)) ∧ w = w' := by
  have HS := Lib.hid hs
  clear hs
  go_enter Try.func10, Try.ntmps10
  go_wp2
  go_loopg [3, 4] xs.length (fun g a i wr => ∃ (k most : Nat), k + g = xs.length ∧ i = .int .i64 k ∧ a = .int .i64 most ∧ most ≤ xs.length ∧ Hid (mvs xs = max most (mvs (xs.drop k))) ∧ wr = w)
  case atStart => exact ⟨0, 0, by omega, rfl, rfl, Nat.zero_le _, by rw [Hid, List.drop_zero]; omega, rfl⟩
  case round =>
    obtain ⟨k, most, hkg, rfl, rfl, hmost, HT, rfl⟩ := hrel
    cases gk with
    | zero =>
      obtain rfl : k = xs.length := by omega
      rw [List.drop_length] at HT
      have HT2 : Hid (mvs xs = most) := by rw [Hid, HT.out, mvs]; omega
      go_wp2
      go_ret
      exact ⟨by rw [HT2.out]; rfl, rfl⟩
    | succ g =>
      have hlt : k < xs.length := by omega
      have HM : Hid (mvs (xs.drop k) = max (lead (xs.drop k)) (mvs (xs.drop (k + 1)))) := by rw [Hid, List.drop_eq_getElem_cons hlt]; rfl
      go_wp2
      go_loopg [5] (xs.length - k) (fun g2 n wx => ∃ m : Nat, k + m + g2 = xs.length ∧ n = .int .i64 m ∧ Hid (lead (xs.drop k) = m + lead (xs.drop (k + m))) ∧ wx = wr)
      case atStart => exact ⟨0, by omega, rfl, by rw [Hid]; simp, rfl⟩
      case round =>
        obtain ⟨m, hmg, rfl, HL, rfl⟩ := hrel
        cases gk with
        | zero =>
          have hkm : k + m = xs.length := by omega
          have HL2 : Hid (lead (xs.drop k) = m) := by rw [Hid, HL.out, hkm, List.drop_length]; rfl
          have HN : Hid (mvs xs = max (max most m) (mvs (xs.drop (k + 1)))) := by rw [Hid, HT.out, HM.out, HL2.out]; omega
          by_cases hgt : most < m
          · go_wp2
            go_roundg g
            case measure => omega
            case rel => exact ⟨k + 1, m, by omega, by go_num, rfl, by omega, by rw [Hid, HN.out]; omega, rfl⟩
          · go_wp2
            go_roundg g
            case measure => omega
            case rel => exact ⟨k + 1, most, by omega, by go_num, rfl, by omega, by rw [Hid, HN.out]; omega, rfl⟩
        | succ g2 =>
          have hlm : k + m < xs.length := by omega
          obtain ⟨b, o, rfl, hb, hat⟩ := HS.out.at_ hlm
          have hc0 := hat.c0
          have HD : Hid (lead (xs.drop (k + m)) = if xs[k + m].mv then lead (xs.drop (k + m + 1)) + 1 else 0) := by rw [Hid, List.drop_eq_getElem_cons hlm]; rfl
          clear hat
          generalize xs[k + m] = y at *
          have hmv : y.mv = (y.op == 18) := rfl
          cases h18 : (y.op == 18)
          · have HL2 : Hid (lead (xs.drop k) = m) := by rw [Hid, HL.out, HD.out, hmv, h18]; rfl
            have HN : Hid (mvs xs = max (max most m) (mvs (xs.drop (k + 1)))) := by rw [Hid, HT.out, HM.out, HL2.out]; omega
            clear hmv
            by_cases hgt : most < m
            · go_wp2
              go_roundg g
              case measure => omega
              case rel => exact ⟨k + 1, m, by omega, by go_num, rfl, by omega, by rw [Hid, HN.out]; omega, rfl⟩
            · go_wp2
              go_roundg g
              case measure => omega
              case rel => exact ⟨k + 1, most, by omega, by go_num, rfl, by omega, by rw [Hid, HN.out]; omega, rfl⟩
          · have HL2 : Hid (lead (xs.drop k) = m + 1 + lead (xs.drop (k + (m + 1)))) := by rw [Hid, HL.out, HD.out, hmv, h18, if_pos rfl, Nat.add_assoc k m 1]; omega
            clear hmv
            go_wp2
            go_roundg g2
            case measure => omega
            case rel => exact ⟨m + 1, by omega, by go_num, HL2.out, rfl⟩

end Go.Proofs.Ytcindgaonaloeaa
