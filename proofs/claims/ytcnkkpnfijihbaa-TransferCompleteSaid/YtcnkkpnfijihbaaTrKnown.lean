/-
  The statements' functions known and holds.
-/
import Derived.Test.YtcnkkpnfijihbaaTrVals
import Derived.Test.YtcnkkpnfijihbaaPsAt0
import Derived.Test.YtcnkkpnfijihbaaInts
namespace Go.Proofs.Ytcnkkpnfijihbaa
open Go.RowKit
set_option linter.unusedVariables false

theorem ints_atD {w : World} {B : Nat} {A : Option Addr} {l : List Int} (h : Sees w B A (ints l)) {k : Nat} (hk : k < l.length) : ∃ b o, A = some ⟨b, o, none⟩ ∧ b < B ∧ w.cell? ⟨b, o + k, none⟩ = some (.int .i64 (l.getD k 0)) := by
  obtain ⟨b, o, e, hb, hc⟩ := ints_at h hk
  exact ⟨b, o, e, hb, by rw [hc]; simp [List.getD, hk]⟩

set_option maxRecDepth 100000 in
set_option maxHeartbeats 4000000 in
theorem known_any (B : Nat) (A A' : Option Addr) (r s : List Int) (c c' : Nat) (w : World) (hs : Sees w B A (ints r)) (hs' : Sees w B A' (ints s)) (hB : B ≤ w.heap.size) (hr : r.length ≤ 30) (hl : s.length ≤ 30) :
    Calls Try.prog 17 #[.slice A r.length c, .slice A' s.length c'] w fun e w' => ∃ v, e = .returned v ∧ PL w v (knP r s) w' := by
  obtain ⟨i0, hi0, hz0, hz1, hz2⟩ := info_pr
  go_enter Try.func17, Try.ntmps17
  go_wp2
  go_loopg [5, 6] r.length (fun g v5 v6 wr => ∃ k : Nat, k + g = r.length ∧ v6 = .int .i64 k ∧ Hid (PL w v5 (knU r s k) wr))
  case atStart => exact ⟨0, by omega, by go_num, PL.nil w⟩
  case round =>
    obtain ⟨k, hg, rfl, HP⟩ := hrel
    by_cases hlt : k < r.length
    · have hkz : (k : Int) < (r.length : Int) := by omega
      have hkl : (knU r s k).length ≤ 900 := by
        have h1 := knU_len r s k
        have h2 : k * s.length ≤ 30 * 30 := Nat.mul_le_mul (by omega) hl
        omega
      obtain ⟨b1, o1, rfl, hb1, hc1⟩ := ints_atD hs hlt
      have C1 : Hid (∀ W, Below w.heap.size w W → W.cell? ⟨b1, o1 + k, none⟩ = some (.int .i64 (r.getD k 0))) := fun W h => (h.cell (p := ⟨b1, _, none⟩) (by show b1 < _; omega)).trans hc1
      obtain ⟨W1, h⟩ : ∃ z, z = wr := ⟨_, rfl⟩
      subst h
      clear hc1
      go_wp2
      go_loopg [5, 7] s.length (fun g v5 v7 wr => ∃ t : Nat, t + g = s.length ∧ v7 = .int .i64 t ∧ Hid (PL w v5 (knU r s k ++ knR r s k t) wr))
      case atStart => exact ⟨0, by omega, by go_num, by show PL _ _ _ _; rw [knR_zero, List.append_nil]; exact HP.out⟩
      case round =>
        clear HP
        obtain ⟨t, hgt, rfl, HP⟩ := hrel
        by_cases htl : t < s.length
        · have htz : (t : Int) < (s.length : Int) := by omega
          have hol : (knU r s k ++ knR r s k t).length ≤ 1000 := by
            have h1 := knR_len r s k t
            rw [List.length_append]
            omega
          obtain ⟨b2, o2, rfl, hb2, hc2⟩ := ints_atD hs' htl
          have c1 := C1.out _ HP.out.blw
          have c2 := (HP.out.blw.cell (p := ⟨b2, _, none⟩) (by show b2 < _; omega)).trans hc2
          have HE : Hid (knU r s k ++ knR r s k (t + 1) = (knU r s k ++ knR r s k t) ++ if r.getD k 0 = s.getD t 0 then [((k : Int), (t : Int))] else []) := by
            show _ = _
            rw [knR_succ, List.append_assoc]
          generalize knU r s k ++ knR r s k t = o at *
          generalize r.getD k 0 = x at *
          generalize s.getD t 0 = y at *
          clear hs hs' hc2 C1
          by_cases hxy : x = y
          · have e1 : (x == y) = true := by simp [hxy]
            have HE2 := Lib.hid (HE.out.trans (by rw [if_pos hxy]))
            clear hxy HE
            go_wp2
            go_quiet (fail)
            go_upto_region 9 with fail
            have HP2 := Lib.hid (HP.out.grew ((Grew.refl wr).drewN nq))
            clear c1 c2 HP
            generalize wr.drewN nq = W2 at *
            have hown := (HP2.out.alloc (prObj (k : Int) (t : Int))).own
            have hnew := new_sees W2 (k : Int) (t : Int)
            go_wp2_with (at_builtin; refine wpList_append_any _ rfl (.tmp 29) (.tmp 33) 22 rfl _ 35 i0 (.agg #[.int .i64 0, .int .i64 0]) 2 16 Try.underlying22 hi0 hz0 hz1 hz2 rfl (by decide) _ _ _ rfl hown (W2.heap.size + 1) _ 1 1 _ rfl hnew rfl (prs_one _) ?c1 ?c2 ?c3 ?_)
            case c1 => have := hol; unfold maxLen; omega
            case c2 => have := hol; omega
            case c3 => have := HP2.out.blw.size; simp; omega
            intro v3 W3 ho2 hg2 hb2
            have HP3 := Lib.hid (HP2.out.push (k : Int) (t : Int) (by first | rfl | simp) ho2 hg2)
            clear ho2 hg2 hb2 hown hnew
            go_wp2
            go_roundg (s.length - (t + 1))
            case measure => omega
            case rel => exact ⟨t + 1, by omega, by go_num, by show PL _ _ _ _; rw [HE2.out]; exact HP3.out⟩
          · have e1 : (x == y) = false := by simp [hxy]
            have HE2 := Lib.hid (HE.out.trans (by rw [if_neg hxy]))
            clear hxy HE
            go_wp2
            go_quiet (fail)
            have HP2 := Lib.hid (HP.out.grew ((Grew.refl wr).drewN nq))
            clear c1 c2 HP
            go_wp2
            go_roundg (s.length - (t + 1))
            case measure => omega
            case rel => exact ⟨t + 1, by omega, by go_num, by show PL _ _ _ _; rw [HE2.out, List.append_nil]; exact HP2.out⟩
        · obtain rfl : t = s.length := by omega
          have HE2 := Lib.hid (knU_succ r s k)
          have htz : ¬ ((s.length : Nat) : Int) < (s.length : Int) := by omega
          clear hs hs' C1
          go_wp2
          go_roundg (r.length - (k + 1))
          case measure => omega
          case rel => exact ⟨k + 1, by omega, by go_num, by show PL _ _ _ _; rw [HE2.out]; exact HP.out⟩
    · obtain rfl : k = r.length := by omega
      have hkz : ¬ ((r.length : Nat) : Int) < (r.length : Int) := by omega
      clear hs hs'
      go_wp2
      go_ret
      exact ⟨_, rfl, HP.out⟩

set_option maxRecDepth 100000 in
set_option maxHeartbeats 4000000 in
theorem holds_any (B : Nat) (A0 A A' : Option Addr) (l : List Pr) (r s : List Int) (c0 c c' : Nat) (w : World) (h0 : Sees w B A0 (prs l)) (hs : Sees w B A (ints r)) (hs' : Sees w B A' (ints s)) (hl : l.length ≤ 1000000) (hrl : r.length ≤ 1000000) (hsl : s.length ≤ 1000000) (hh : ∀ q ∈ l, HoldP r s q) :
    Calls Try.prog 18 #[.slice A0 l.length c0, .slice A r.length c, .slice A' s.length c'] w fun e w' => e = .returned (.bool true) ∧ Grew w w' := by
  go_enter Try.func18, Try.ntmps18
  go_wp2
  go_loopw [7] (fun i wr => ∃ k n : Nat, k ≤ l.length ∧ i = .int .i64 k ∧ wr = w.drewN n) (fun i _ => l.length - (intOf i).toNat)
  case atStart => exact ⟨0, 0, Nat.zero_le _, rfl, rfl⟩
  case round =>
    obtain ⟨k, n, hk, rfl, rfl⟩ := hrel
    by_cases hlt : k < l.length
    · have hkz : (k : Int) < (l.length : Int) := by omega
      obtain ⟨v, t, e, hv, ht, hE⟩ := hh l[k] (List.getElem_mem hlt)
      obtain ⟨b, o, rfl, _, hc0, hc1⟩ := sees_pair h0 hlt
      rw [e] at hc0 hc1
      dsimp only at hc0 hc1
      obtain ⟨b1, o1, rfl, _, hc2⟩ := ints_atD hs hv
      obtain ⟨b2, o2, rfl, _, hc3⟩ := ints_atD hs' ht
      rw [← hE] at hc3
      generalize r.getD v 0 = x at *
      have hx : (x != x) = false := by simp
      have d1 : decide ((v : Int) < 0) = false := by simp
      have d2 : decide ((t : Int) < 0) = false := by simp
      have d3 : decide ((r.length : Int) ≤ (v : Int)) = false := by simp; omega
      have d4 : decide ((s.length : Int) ≤ (t : Int)) = false := by simp; omega
      have v1 : (v : Int) < (r.length : Int) := by omega
      have t1 : (t : Int) < (s.length : Int) := by omega
      clear h0 hs hs' e hE hh
      go_wp2
      go_quiet (fail)
      go_wp2
      go_roundw
      case rel => exact ⟨k + 1, _, by omega, by go_num, rfl⟩
      case measure => simp [intOf]; omega
    · have hkz : ¬ (k : Int) < (l.length : Int) := by omega
      clear h0 hs hs' hh
      go_wp2
      go_ret
      exact ⟨rfl, (Grew.refl w).drewN _⟩

end Go.Proofs.Ytcnkkpnfijihbaa
