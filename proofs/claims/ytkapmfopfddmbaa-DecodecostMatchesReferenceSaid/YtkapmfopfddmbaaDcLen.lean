/-
  The reference's lengths of sections.
-/
import Derived.Test.YtkapmfopfddmbaaDcMath
import Derived.Test.YtkapmfopfddmbaaPk1
namespace Go.Proofs.Ytkapmfopfddmbaa
open Go.RowKit
set_option linter.unusedVariables false
set_option linter.unusedSimpArgs false

theorem secL_bad {id : Nat} {ids b : List Nat} (h : (oneS id b).1 ≠ 0) : secL (id :: ids) b = 0 := if_pos h

theorem secL_good {id h v : Nat} {ids b : List Nat} (e : oneS id b = (0, h, v)) : secL (id :: ids) b = v + secL ids (b.drop (h + v)) := by
  have e' : secL (id :: ids) b = if (oneS id b).1 ≠ 0 then 0 else (oneS id b).2.2 + secL ids (b.drop ((oneS id b).2.1 + (oneS id b).2.2)) := rfl
  rw [e', e, if_neg (by dsimp only; omega)]

theorem ids_at21 {k : Nat} (h : k < 3) : ids20.drop k = (k + 1) :: ids20.drop (k + 1) := by
  match k, h with
  | 0, _ => rfl
  | 1, _ => rfl
  | 2, _ => rfl

set_option maxRecDepth 100000 in
set_option maxHeartbeats 4000000 in
theorem rlengths_any (B : Nat) (A : Option Addr) (l : List Nat) (c : Nat) (w : World) (hs : Sees w B A (bts l)) (hby : Byt l) (hm : l.length ≤ 1000000) (hlc : l.length ≤ c) (hc : c ≤ maxLen) :
    Calls Try.prog 26 #[.slice A l.length c] w fun e w' => e = .returned (.int .i64 (secL ids20 l : Nat)) ∧ w = w' := by
  unfold maxLen at hc
  obtain ⟨T, hT⟩ : ∃ T, secL ids20 l = T := ⟨_, rfl⟩
  rw [hT]
  have HS := Lib.hid hs
  have HBY := Lib.hid hby
  have HT := Lib.hid hT
  obtain ⟨n, hn⟩ : ∃ n, l.length = n := ⟨_, rfl⟩
  have HN := Lib.hid hn
  rw [hn] at hm hlc ⊢
  clear hs hby hT hn
  go_enter Try.func26, Try.ntmps26
  go_wp2
  go_loopw [0, 3, 4] (fun s0 s3 s4 wr => ∃ (k sum nb : Nat) (A1 : Option Addr) (c1 : Nat) (b1 : List Nat), k ≤ 3 ∧ s0 = .slice A1 nb c1 ∧ s3 = .int .i64 sum ∧ s4 = .int .i64 (k + 1 : Nat) ∧ nb ≤ c1 ∧ c1 ≤ 9223372036854775807 ∧ sum + nb ≤ 1000000 ∧ Hid (b1.length = nb) ∧ Hid (Sees wr B A1 (bts b1)) ∧ Hid (Byt b1) ∧ Hid (T = sum + secL (ids20.drop k) b1) ∧ wr = w) (fun _ _ s _ => 4 - (intOf s).toNat)
  case atStart => exact ⟨0, 0, n, A, c, l, by omega, rfl, rfl, rfl, hlc, hc, by omega, HN, HS, HBY, (by show T = 0 + secL ids20 l; rw [HT.out]; omega), rfl⟩
  case round =>
    obtain ⟨k, sum, nb, A1, c1, b1, hk, rfl, rfl, rfl, hn1, hc1, hsm, HL, HS1, HB1, HT1, rfl⟩ := hrel
    by_cases hk3 : k < 3
    · have hkd := ids_at21 hk3
      rw [hkd] at HT1
      clear hkd
      match b1, HL, HS1, HB1, HT1 with
      | [], HL, HS1, HB1, HT1 =>
        have h0 : nb = 0 := HL.out.symm
        subst h0
        have HE : Hid (T = sum) := by show T = sum; rw [HT1.out, secL_bad (by show (1 : Nat) ≠ 0; decide)]; rfl
        clear HT1 HL HS1 HB1
        go_wp2
        go_ret
        exact ⟨by rw [HE.out]; rfl, rfl⟩
      | y :: t, HL, HS1, HB1, HT1 =>
        have hnb : nb = t.length + 1 := HL.out.symm
        subst hnb
        obtain ⟨b, o, hAe, _, hc3⟩ := HS1.out (by simp [bts])
        subst hAe
        have hcell : wr.cell? ⟨b, o, none⟩ = some (.int .u8 (y : Int)) := by have := hc3 0 (.int .u8 (y : Int)) (by simp [bts]); simpa using this
        have hy : y < 256 := HB1.out _ List.mem_cons_self
        have e0 : ((t.length : Int) + 1 == 0) = false := by simp; omega
        clear hc3
        by_cases hyi : y = k + 1
        case neg =>
          have HE : Hid (T = sum) := by show T = sum; rw [HT1.out, secL_bad (by rw [oneS, if_pos hyi]; show (7 : Nat) ≠ 0; decide)]; rfl
          have e2 : ((y : Int) != (k : Int) + 1) = true := by simp; omega
          clear HT1 HL HS1 HB1 hyi
          go_wp2
          go_ret
          exact ⟨by rw [HE.out]; rfl, rfl⟩
        have e2 : ((y : Int) != (k : Int) + 1) = false := by simp; omega
        have hsd := HS1.out.drop (k := 1) (cap := c1) (by rw [bts_length]; exact hn1)
        rw [show (bts (y :: t)).drop 1 = bts t from rfl] at hsd
        obtain ⟨A2, hite⟩ : ∃ A2, (if c1 = 1 then some (⟨b, o, none⟩ : Addr) else some ⟨b, o + 1, none⟩) = A2 := ⟨_, rfl⟩
        have hsd2 : Sees wr B A2 (bts t) := by
          rw [← hite]
          simpa [Addr.add_lit] using hsd
        have HB2 : Hid (Byt t) := fun x hx => HB1.out x (List.mem_cons_of_mem _ hx)
        have CG := Lib.hid (rget_any B A2 t (c1 - 1) wr hsd2 HB2.out (by unfold maxLen; omega))
        obtain ⟨⟨v, m, er⟩, hg⟩ : ∃ g, getS t = g := ⟨_, rfl⟩
        have hml : m ≤ t.length := by have := getS_len t; rw [hg] at this; exact this
        rw [hg] at CG
        have HG := Lib.hid hg
        have HOne : Hid (oneS (k + 1) (y :: t) = if (getS t).2.2 ≠ 0 then ((getS t).2.2, 0, 0) else if t.length < (getS t).2.1 + (getS t).1 then (1, 0, 0) else (0, 1 + (getS t).2.1, (getS t).1)) := by show _ = _; rw [oneS, if_neg (fun h => h hyi)]
        dsimp only at CG
        clear hsd hsd2 hg hyi HL
        obtain ⟨q, hq⟩ : ∃ q, t.length = q := ⟨_, rfl⟩
        rw [hq] at hml CG hn1 hsm e0 ⊢
        have HQ := Lib.hid hq
        clear hq
        go_wp2_with fail
        refine CG.out.mono ?_
        rintro e W ⟨rfl, rfl⟩
        by_cases her : er = 0
        case neg =>
          have HE : Hid (T = sum) := by show T = sum; rw [HT1.out, secL_bad (by rw [HOne.out, HG.out, if_pos her]; exact her)]; rfl
          have d0 : ((er : Int) != 0) = true := by simp; omega
          clear HT1 HOne HG her
          go_wp2
          go_ret
          exact ⟨by rw [HE.out]; rfl, rfl⟩
        subst her
        by_cases hv : q < m + v
        · have HE : Hid (T = sum) := by show T = sum; rw [HT1.out, secL_bad (by rw [HOne.out, HG.out, if_neg (by dsimp only; decide), if_pos (by rw [HQ.out]; exact hv)]; show (1 : Nat) ≠ 0; decide)]; rfl
          clear HT1 HOne HG
          go_wp2
          go_ret
          exact ⟨by rw [HE.out]; rfl, rfl⟩
        · have HOne2 : Hid (oneS (k + 1) (y :: t) = (0, 1 + m, v)) := by show _ = _; rw [HOne.out, HG.out, if_neg (by dsimp only; decide), if_neg (by rw [HQ.out]; exact hv)]
          have HT2 : Hid (T = sum + v + secL (ids20.drop (k + 1)) (t.drop (m + v))) := by
            show T = _
            rw [HT1.out, secL_good HOne2.out, show (y :: t).drop (1 + m + v) = t.drop (m + v) from by rw [show 1 + m + v = (m + v) + 1 by omega]; rfl]
            omega
          obtain ⟨r, hr⟩ : ∃ r, q = m + v + r := ⟨q - (m + v), by omega⟩
          subst hr
          have hsr := HS1.out.drop (k := 1 + m + v) (cap := c1) (by rw [bts_length]; show t.length + 1 ≤ c1; rw [HQ.out]; exact hn1)
          rw [show (bts (y :: t)).drop (1 + m + v) = bts (t.drop (m + v)) from by rw [show 1 + m + v = (m + v) + 1 by omega]; simp [bts]] at hsr
          obtain ⟨A3, hite3⟩ : ∃ A3, (if c1 = 1 + m + v then some (⟨b, o, none⟩ : Addr) else some ⟨b, o + (1 + m + v), none⟩) = A3 := ⟨_, rfl⟩
          have HS3 : Hid (Sees wr B A3 (bts (t.drop (m + v)))) := by
            show Sees _ _ _ _
            rw [← hite3]
            simpa [Addr.add_lit] using hsr
          have HB3 : Hid (Byt (t.drop (m + v))) := fun x hx => HB2.out x (List.mem_of_mem_drop hx)
          have HL3 : Hid ((t.drop (m + v)).length = r) := by show _ = _; rw [List.length_drop, HQ.out]; omega
          clear HT1 HOne HOne2 HG HS1 hsr
          go_wp2
          go_roundw
          case rel =>
            refine ⟨k + 1, sum + v, r, A3, c1 - (1 + m + v), t.drop (m + v), by omega, ?_, ?_, ?_, by omega, by omega, by omega, HL3, HS3, HB3, HT2, trivial⟩
            · rw [hite3]
              congr 1
              omega
            · go_num
            · go_num
          case measure => simp [intOf]; omega
    · have hk4 : k = 3 := by omega
      subst hk4
      have HE : Hid (T = sum) := by show T = sum; rw [HT1.out]; rfl
      clear HT1
      go_wp2
      go_ret
      exact ⟨by rw [HE.out]; rfl, rfl⟩

end Go.Proofs.Ytkapmfopfddmbaa
