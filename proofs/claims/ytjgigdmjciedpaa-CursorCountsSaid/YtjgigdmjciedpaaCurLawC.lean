/-
  The walk of the statement on counts.
-/
import Derived.Test.YtjgigdmjciedpaaCurAwake
namespace Go.Proofs.Ytjgigdmjciedpaa
open Go.RowKit
set_option linter.unusedVariables false

theorem u16_of_wf {x : Int} (h : (Lit.int .u16 x).wf = true) : 0 ≤ x ∧ x ≤ 65535 := by
  simp [Lit.wf, IntKind.min, IntKind.max, IntKind.signed, IntKind.bits] at h
  omega

theorem retq {b : Bool} (h : b = true) : Ending.returned (.bool b) = .returned (.bool true) := by rw [h]
theorem countS_ok {most size : Int} {l : List Nat} (hb : Byt l) {v n : Nat} (h : countS most size l = (v, n, 0)) : (v : Int) ≤ most ∧ (0 < size → (v : Int) ≤ ((l.length : Int) - n) / size) ∧ n ≤ l.length := by
  have hlen := countS_len most size l
  rw [h] at hlen
  unfold countS at h
  split at h
  · cases h
  · split at h
    · cases h
    · rename_i h2
      rw [h] at h2
      have hv := uintS_v most l hb (by rw [h])
      rw [h] at hv
      refine ⟨hv, fun hs => ?_, hlen⟩
      have : ¬ ((l.length : Int) - n) / size < (v : Int) := fun h3 => h2 ⟨rfl, hs, h3⟩
      omega

set_option maxRecDepth 100000 in
set_option maxHeartbeats 1000000 in
theorem CursorCounts_walk (a0 : Option Addr) (len0 cap0 : Nat) (z0 : List Int) (a1 : Int) (a2 : Int) (w : World) (w0 : IsRow .u8 w a0 len0 cap0 z0) (w1 : (Lit.int .u16 a1).wf = true) (w2 : (Lit.int .u8 a2).wf = true) :
    Calls Try.prog 6 #[.slice a0 len0 cap0, .int .u16 a1, .int .u8 a2] w fun e w' => e = .returned (.bool true) ∧ Below w.heap.size w w' := by
  obtain ⟨u0, u1⟩ := u16_of_wf w1
  obtain ⟨v0, v1⟩ := u8_of_wf w2
  obtain ⟨l, rfl, hby, hs, hlc, hcm⟩ := w0.bytes
  clear w0 w1 w2
  by_cases hlong : 1000 < l.length
  · go_enter Try.func6, Try.ntmps6
    go_wp2_with fail
    refine (awake_any _).mono ?_
    rintro e W ⟨rfl, hb⟩
    go_wp2_with fail
    refine (awake_any _).mono ?_
    rintro e W2 ⟨rfl, hb2⟩
    go_wp2_with fail
    go_ret
    exact ⟨rfl, hb.trans (hb2.mono hb.size)⟩
  have hl3 : l.length ≤ 1000 := by omega
  clear hlong
  go_enter Try.func6, Try.ntmps6
  go_wp2_with fail
  refine (awake_any _).mono ?_
  rintro e W ⟨rfl, hb⟩
  have hs1 := hs.below hb
  have HN := Lib.hid (new_any a0 l w.heap.size cap0 W hs1 hb.size hby (by omega))
  have HB := Lib.hid hb
  clear hs hs1 hb
  go_wp2_with fail
  refine HN.out.mono ?_
  rintro e W1 ⟨p, A, c, rfl, hp, hc, hb1⟩
  have HM := Lib.hid (HB.out.trans (hb1.mono HB.out.size))
  have hwp : w.heap.size ≤ p := Nat.le_trans HB.out.size hp
  have hca := count_any hc a1 a2 (by omega) (by omega)
  simp only [List.drop_zero] at hca
  unfold After at hca
  clear hc hb1 HN HB
  obtain ⟨v, n, e, hr⟩ : ∃ v n e, countS a1 a2 l = (v, n, e) := ⟨_, _, _, rfl⟩
  rw [hr] at hca
  by_cases he : e = 0
  · subst he
    obtain ⟨k1, k2, k3⟩ := countS_ok hby hr
    have HC := Lib.hid (show Calls Try.prog 21 #[.pointer (some ⟨p, 0, none⟩), .int .i64 a1, .int .i64 a2] W1 fun e w' => e = .returned (.int .i64 v) ∧ Mods (Is p) W1 w' ∧ Cur w' W.heap.size p l n 0 A c by
      have h1 : stepI 0 0 (v, n, 0) = n := by simp [stepI]
      rwa [h1] at hca)
    clear hca hr
    go_wp2_with fail
    refine HC.out.mono ?_
    rintro e W2 ⟨rfl, hm2, hc2⟩
    have HM2 := Lib.hid (below_mods HM.out hm2 (fun k hk => by unfold Is at hk; omega) (Nat.le_refl _))
    have HC2 := Lib.hid hc2
    clear hm2 hc2 HM HC
    go_wp2_with fail
    refine (err_any HC2.out).mono ?_
    rintro e W3 ⟨rfl, rfl⟩
    by_cases hz : a2 = 0
    · subst hz
      have k4 : (v : Int) ≤ 65535 := by omega
      clear k2
      go_wp2_with fail
      refine (at_any HC2.out).mono ?_
      rintro e W3 ⟨rfl, rfl⟩
      go_wp2_with fail
      refine (left_any HC2.out).mono ?_
      rintro e W3 ⟨rfl, m, rfl⟩
      rw [leftS_ok]
      go_wp2
      go_ret
      exact ⟨retq (beq_iff_eq.2 (by omega)), blw_drewN HM2.out m⟩
    · have hz' : 0 < a2 := by omega
      have hz0 : (a2 == 0) = false := by simp [hz]
      have k4 := k2 hz'
      have k5 : (v : Int) * a2 ≤ (l.length : Int) - n := by
        have h1 := Int.ediv_mul_le ((l.length : Int) - n) (b := a2) (by omega)
        have h2 : (v : Int) * a2 ≤ ((l.length : Int) - n) / a2 * a2 := Int.mul_le_mul_of_nonneg_right k4 (by omega)
        omega
      have k6 : 0 ≤ (v : Int) * a2 := Int.mul_nonneg (by omega) (by omega)
      clear k2 hz k4
      go_wp2_with fail
      refine (left_any HC2.out).mono ?_
      rintro e W3 ⟨rfl, m, rfl⟩
      rw [leftS_ok]
      generalize (v : Int) * a2 = z at k5 k6
      go_wp2_with fail
      refine (at_any (HC2.out.drewN m)).mono ?_
      rintro e W3 ⟨rfl, rfl⟩
      go_wp2_with fail
      refine (left_any (HC2.out.drewN m)).mono ?_
      rintro e W3 ⟨rfl, m2, rfl⟩
      rw [leftS_ok]
      go_wp2
      go_ret
      exact ⟨retq (beq_iff_eq.2 (by omega)), blw_drewN HM2.out _⟩
  · have h0 : stepV 0 (v, n, e) = 0 := if_neg fun h => he h.2
    have h1 : stepI 0 0 (v, n, e) = 0 := if_neg fun h => he h.2
    have h2 : stepE 0 (v, n, e) = (e : Int) := rfl
    rw [h0, h1, h2] at hca
    have HC := Lib.hid hca
    have e1 : ((e : Int) != 0) = true := by simp; omega
    clear hca hr h0 h1 h2
    go_wp2_with fail
    refine HC.out.mono ?_
    rintro e W2 ⟨rfl, hm2, hc2⟩
    have HM2 := Lib.hid (below_mods HM.out hm2 (fun k hk => by unfold Is at hk; omega) (Nat.le_refl _))
    have HC2 := Lib.hid hc2
    clear hm2 hc2 HM HC
    go_wp2_with fail
    refine (err_any HC2.out).mono ?_
    rintro e W3 ⟨rfl, rfl⟩
    go_wp2_with fail
    refine (at_any HC2.out).mono ?_
    rintro e W3 ⟨rfl, rfl⟩
    go_wp2
    go_ret
    exact ⟨rfl, HM2.out⟩

end Go.Proofs.Ytjgigdmjciedpaa
