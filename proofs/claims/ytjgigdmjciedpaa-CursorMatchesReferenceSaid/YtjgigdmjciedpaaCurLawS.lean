/-
  The walk of the statement that after an error no read moves the cursor or returns anything, and the error is kept.
-/
import Derived.Test.YtjgigdmjciedpaaCurOp
import Derived.Test.YtjgigdmjciedpaaRecs
namespace Go.Proofs.Ytjgigdmjciedpaa
open Go.RowKit
set_option linter.unusedVariables false

theorem IsReads.keep {w w' : World} {a : Option Addr} {len cap : Nat} (h : IsReads w a len cap) (hb : Below w.heap.size w w') : IsReads w' a len cap := by
  refine ⟨h.1, h.2.1, fun h0 => ?_⟩
  obtain ⟨b, o, e, hbl, hc⟩ := h.2.2 h0
  refine ⟨b, o, e, Nat.lt_of_lt_of_le hbl hb.size, fun i hi => ?_⟩
  obtain ⟨k, x, y, m, ⟨c0, c1, c2, c3⟩, hw⟩ := hc i hi
  exact ⟨k, x, y, m, ⟨(hb.cell (p := ⟨b, _, none⟩) hbl).trans c0, (hb.cell (p := ⟨b, _, none⟩) hbl).trans c1, (hb.cell (p := ⟨b, _, none⟩) hbl).trans c2, (hb.cell (p := ⟨b, _, none⟩) hbl).trans c3⟩, hw⟩

theorem op_bad {w : World} {lo p : Nat} {l : List Nat} {i : Nat} {er : Int} {A : Option Addr} {c : Nat} (h : Cur w lo p l i er A c) (he : er ≠ 0) (k a b m : Int) (hsm : l.length ≤ 1000) (ha : a ≤ 9223372036854775807) (hb : b ≤ 9223372036854775807) (hm : 0 ≤ m) :
    Calls Try.prog 10 #[.pointer (some ⟨p, 0, none⟩), .agg #[.int .i64 k, .int .i64 a, .int .i64 b, .int .u64 m]] w fun e w' =>
      ∃ A' c', e = .returned (.tuple #[.int .u64 0, .slice A' 0 c']) ∧ Mods (Is p) w w' ∧ Cur w' lo p l i er A c := by
  have hV : opV k er (opT k a b m (l.drop i)) = 0 := by
    have hs : stepV er (opT k a b m (l.drop i)) = 0 := if_neg fun h => he h.1
    unfold opV
    rw [hs]
    split
    · rfl
    · rfl
  have hI : stepI i er (opT k a b m (l.drop i)) = i := if_neg fun h => he h.1
  have hE : opE k a l.length i er (opT k a b m (l.drop i)) = er := by
    unfold opE
    split
    · exact if_neg fun h => he h.1
    · split
      · exact if_neg he
      · exact if_neg he
  have hL : opL k a er (l.drop i) = [] := by
    unfold opL
    split
    · exact bytesL_bad he
    · rfl
  refine (op_any h k a b m hsm ha hb hm).mono ?_
  rintro e w' ⟨A', c', he', h1, h2, _⟩
  rw [hV, hL] at he'
  rw [hI, hE] at h2
  exact ⟨A', c', he', h1, h2⟩

set_option maxRecDepth 100000 in
set_option maxHeartbeats 4000000 in
theorem CursorStops_walk (a0 : Option Addr) (len0 cap0 : Nat) (z0 : List Int) (a1 : Int) (a2 : Option Addr) (len2 cap2 : Nat) (w : World) (w0 : IsRow .u8 w a0 len0 cap0 z0) (w1 : (Lit.int .u8 a1).wf = true) (w2 : IsReads w a2 len2 cap2) :
    Calls Try.prog 5 #[.slice a0 len0 cap0, .int .u8 a1, .slice a2 len2 cap2] w fun e w' => e = .returned (.bool true) ∧ Below w.heap.size w w' := by
  obtain ⟨v0, v1⟩ := u8_of_wf w1
  obtain ⟨l, rfl, hby, hs, hlc, hcm⟩ := w0.bytes
  have hr1 := w2.1
  have hr2 := w2.2.1
  have HR := Lib.hid w2
  unfold maxLen at hcm hr2
  clear w0 w1 w2
  by_cases hlong : l.length ≤ 1000 ∧ len2 ≤ 50
  case neg =>
    have HLG : 1000 < l.length ∨ (l.length ≤ 1000 ∧ 50 < len2) := by omega
    clear hlong
    rcases HLG with h1 | ⟨h1, h2⟩
    all_goals
      go_enter Try.func5, Try.ntmps5
      go_wp2_with fail
      refine (awake_any _).mono ?_
      rintro e W ⟨rfl, hb⟩
      go_wp2_with fail
      refine (awake_any _).mono ?_
      rintro e W2 ⟨rfl, hb2⟩
      go_wp2_with fail
      go_ret
      exact ⟨rfl, hb.trans (hb2.mono hb.size)⟩
  obtain ⟨l0, l1⟩ := hlong
  go_enter Try.func5, Try.ntmps5
  go_wp2_with fail
  refine (awake_any _).mono ?_
  rintro e W ⟨rfl, hb⟩
  have hs1 := hs.below hb
  have HB := Lib.hid hb
  have hz := hb.size
  clear hs hb
  go_wp2_with fail
  refine (new_any a0 l w.heap.size cap0 W hs1 hz hby (by omega)).mono ?_
  rintro e W1 ⟨p, A1, c1, rfl, hp, hc1, hb1⟩
  have HC1 := Lib.hid hc1
  have HB1 := Lib.hid (HB.out.trans (hb1.mono hz))
  clear hs1 hc1 hb1 HB
  go_wp2_with fail
  refine (byte_any HC1.out).mono ?_
  rintro e W2 ⟨rfl, hm2, hc2⟩
  rw [List.drop_zero] at hc2
  have HB2 := Lib.hid (below_mods HB1.out hm2 (fun k hk => by unfold Is at hk; omega) (Nat.le_refl _))
  have HC2 := Lib.hid hc2
  clear hm2 hc2 HC1 HB1
  have hwhy : 1 ≤ 1 + a1 % 40 := by omega
  have hwhy2 : ¬ (1 + a1 % 40 = 0) := by omega
  go_wp2_with fail
  refine (fail_any HC2.out (1 + a1 % 40)).mono ?_
  rintro e W3 ⟨rfl, hm3, hc3⟩
  obtain ⟨i, er, he, hc3', hcase⟩ : ∃ (i : Nat) (er : Int), er ≠ 0 ∧ Cur W3 W.heap.size p l i er A1 c1 ∧ ((l.length = 0 ∧ er = 1) ∨ (0 < l.length ∧ er = 1 + a1 % 40)) := by
    rcases l with _ | ⟨x, r⟩
    · exact ⟨_, _, (show (1 : Int) ≠ 0 by decide), hc3, .inl ⟨rfl, rfl⟩⟩
    · exact ⟨_, _, hwhy2, hc3, .inr ⟨by simp, rfl⟩⟩
  have HB3 := Lib.hid (below_mods HB2.out hm3 (fun k hk => by unfold Is at hk; omega) (Nat.le_refl _))
  have HC3 := Lib.hid hc3'
  have HE := Lib.hid he
  have hne : (er != 0) = true := by simp [he]
  clear hm3 hc3 hc3' HC2 HB2 hwhy2 he
  rcases hcase with ⟨hl0, rfl⟩ | ⟨hl0, rfl⟩
  case' inl => have z1 : ((l.length : Nat) : Int) ≤ 0 := by omega
  case' inl => have z2 : (((l.length : Nat) : Int) == 0) = true := by rw [beq_iff_eq]; omega
  case' inr => have z1 : (0 : Int) < ((l.length : Nat) : Int) := by omega
  case' inr => have z2 : (((l.length : Nat) : Int) == 0) = false := by rw [beq_eq_false_iff_ne]; omega
  all_goals
    clear hl0
    go_wp2_with fail
    refine (at_any HC3.out).mono ?_
    rintro e W4 ⟨rfl, rfl⟩
    go_wp2_with fail
    refine (err_any HC3.out).mono ?_
    rintro e W4 ⟨rfl, rfl⟩
    clear hne
    go_wp2_with fail
    obtain ⟨X3, hX3⟩ : ∃ x, x = W3 := ⟨_, rfl⟩
    subst hX3
    go_loopw [11] (fun i' wr => ∃ k : Nat, k ≤ len2 ∧ i' = .int .i64 k ∧ Hid (Cur wr W.heap.size p l i _ A1 c1) ∧ Hid (Mods (Is p) X3 wr)) (fun i' _ => len2 - (intOf i').toNat)
    case atStart => exact ⟨0, Nat.zero_le _, rfl, HC3.out, Mods.refl _ _⟩
    case round =>
      obtain ⟨k, hk, rfl, HCk, HMk⟩ := hrel
      by_cases hlt : k < len2
      · have hbk : Below w.heap.size w wr := below_mods HB3.out HMk.out (fun k hk => by unfold Is at hk; omega) (Nat.le_refl _)
        obtain ⟨b, o, hA2, hbl, hc⟩ := (HR.out.keep hbk).2.2 (by omega)
        obtain ⟨kd, xa, xb, xm, ⟨q0, q1, q2, q3⟩, u0, u1, u2, u3⟩ := hc k hlt
        subst hA2
        clear hc hbk
        have hx1 := (i64_of_wf u1).2
        have hx2 := (i64_of_wf u2).2
        have hx3 := (u64_of_wf u3).1
        clear u0 u1 u2 u3
        have HOP := Lib.hid (op_bad HCk.out HE.out kd xa xb xm l0 hx1 hx2 hx3)
        go_wp2_with fail
        refine HOP.out.mono ?_
        rintro e W5 ⟨Ax, cx, rfl, hm5, hc5⟩
        have HC5 := Lib.hid hc5
        have HM5 := Lib.hid (HMk.out.trans hm5)
        have HLf := Lib.hid (leftS_bad l.length i HE.out)
        clear hm5 hc5 HOP q0 q1 q2 q3 HCk HMk
        go_wp2_with fail
        refine (at_any HC5.out).mono ?_
        rintro e W6 ⟨rfl, rfl⟩
        go_wp2_with fail
        refine (err_any HC5.out).mono ?_
        rintro e W6 ⟨rfl, rfl⟩
        go_wp2_with fail
        refine (left_any HC5.out).mono ?_
        rintro e W6 ⟨rfl, n6, rfl⟩
        rw [HLf.out]
        go_wp2
        go_roundw
        case rel => exact ⟨k + 1, by omega, by go_num, HC5.out.drewN n6, HM5.out.drewN n6⟩
        case measure => simp [intOf]; omega
      · have HBe := Lib.hid (below_mods HB3.out HMk.out (fun k hk => by unfold Is at hk; omega) (Nat.le_refl _))
        go_wp2
        go_ret
        exact ⟨rfl, HBe.out⟩

end Go.Proofs.Ytjgigdmjciedpaa
