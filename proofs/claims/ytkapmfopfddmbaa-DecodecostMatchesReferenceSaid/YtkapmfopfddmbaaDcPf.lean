/-
  The program of layer 21: the pairs of the invariants.
-/
import Derived.Test.YtkapmfopfddmbaaDcPd
namespace Go.Proofs.Ytkapmfopfddmbaa
open Go.RowKit
set_option linter.unusedVariables false
set_option linter.unusedSimpArgs false

theorem locS_le21 {l r n : Int} (hr : r ≤ 1048576) (hn : n ≤ 1048576) (h : locS l r n = true) : l ≤ 2097153 := by
  rcases Int.lt_or_le l 2097152 with h9 | h9
  · omega
  · rw [loc_big21 hr hn h9] at h
    cases h

theorem pgT_ok21 {vr r n v l : Int} {s : Ip} (h : (pgT vr r n v l s).err = 0) : v + (pgV s).1 < vr ∧ locS (pgl l s) r n = true := by
  refine ⟨?_, ?_⟩
  · rcases Int.lt_or_le (v + (pgV s).1) vr with h9 | h9
    · exact h9
    · exact absurd h (pgT_reg h9)
  · rcases h9 : locS (pgl l s) r n with _ | _
    · unfold pgT at h
      rw [if_pos h9] at h
      exact absurd h (failE_err (by decide))
    · rfl

theorem step_ce21 {w : World} {lo p : Nat} {l : List Nat} {A : Option Addr} {c : Nat} {t : Ip} (h : CE lo p l A c t w) : Calls Try.prog 40 #[.pointer (some ⟨p, 0, none⟩), .int .u64 2097152] w fun e w' => e = .returned (.int .u64 (numE 2097153 6 t).1) ∧ Mods (Is p) w w' ∧ CE lo p l A c (numE 2097153 6 t).2 w' := unum_ce h 2097152 (by decide)

set_option maxRecDepth 100000 in
set_option maxHeartbeats 8000000 in
theorem dpairs_any {w : World} {lo p : Nat} {l : List Nat} {A : Option Addr} {c : Nat} {s : Ip} (h : CE lo p l A c s w) (k : Nat) (hk : k ≤ 1048576) (sa vr sn sb ta r n tb : Int) (hv : 0 ≤ vr ∧ vr ≤ 1048576) (hr : 0 ≤ r ∧ r ≤ 1048576) (hn : 0 ≤ n ∧ n ≤ 1048576) :
    Calls Try.prog 65 #[.pointer (some ⟨p, 0, none⟩), .int .i64 k, .agg (SZS sa vr sn sb), .agg (SZS ta r n tb)] w fun e w' => e = .returned (.tuple #[]) ∧ Mods (Is p) w w' ∧ CE lo p l A c (pgsT vr r n k 0 (-1) s) w' := by
  obtain ⟨F, hF⟩ : ∃ T, pgsT vr r n k 0 (-1) s = T := ⟨_, rfl⟩
  rw [hF]
  have HF := Lib.hid hF
  have hpw := h.lt
  have HM0 : Hid (Mods (Is p) w ((w.alloc (.cells (SZS sa vr sn sb) 84)).alloc (.cells (SZS ta r n tb) 84))) := ((Mods.refl _ w).alloc _).alloc _
  have H0 := Lib.hid ((h.alloc (.cells (SZS sa vr sn sb) 84)).alloc (.cells (SZS ta r n tb) 84))
  have R6 := Lib.hid ((Row.new w 84 (SZS sa vr sn sb)).alloc (.cells (SZS ta r n tb) 84))
  have R7 := Lib.hid (Row.new (w.alloc (.cells (SZS sa vr sn sb) 84)) 84 (SZS ta r n tb))
  rw [show (w.alloc (.cells (SZS sa vr sn sb) 84)).heap.size = w.heap.size + 1 by simp] at R7
  clear h hF
  go_enter Try.func65, Try.ntmps65
  go_upto_region 1 with fail
  generalize ((w.alloc (.cells (SZS sa vr sn sb) 84)).alloc (.cells (SZS ta r n tb) 84)) = W1 at *
  obtain ⟨x6, hx6⟩ : ∃ x, w.heap.size = x := ⟨_, rfl⟩
  obtain ⟨x7, hx7⟩ : ∃ x, w.heap.size + 1 = x := ⟨_, rfl⟩
  rw [hx6] at R6
  rw [hx7] at R7
  rw [hx7, hx6]
  have h67 : x6 < x7 := by omega
  have hp6 : p < x6 := by omega
  clear hx6 hx7
  go_wp2
  go_loopg [8, 9, 10] k (fun gk v8 v9 v10 wr => ∃ (m : Nat) (v lc : Int) (t : Ip), m + gk = k ∧ v8 = .int .i64 v ∧ v9 = .int .i64 lc ∧ v10 = .int .i64 m ∧ 0 ≤ v ∧ v ≤ 4194304 ∧ -1 ≤ lc ∧ lc ≤ 8388608 ∧ Hid (t.err = 0 → v ≤ 1048576 ∧ lc ≤ 2097153) ∧ Hid (pgsT vr r n gk v lc t = F) ∧ Hid (Mods (Is p) W1 wr) ∧ Hid (CE lo p l A c t wr))
  case atStart => exact ⟨0, 0, -1, s, by omega, rfl, rfl, rfl, by omega, by omega, by omega, by omega, (fun _ => ⟨by decide, by decide⟩), HF.out, Mods.refl _ _, H0.out⟩
  case round =>
    clear H0 HF
    obtain ⟨m, v, lc, t, hmk, rfl, rfl, rfl, hv0, hv1, hl0, hl1, hbd, HF, HM, HC⟩ := hrel
    cases gk with
    | zero =>
      have hlt : ¬ (m : Int) < (k : Int) := by omega
      have HE : Hid (t = F) := HF.out
      clear HF
      go_wp2
      go_end0
      exact ⟨rfl, HM0.out.trans HM.out, by rw [← HE.out]; exact HC.out⟩
    | succ gk =>
      have hlt : (m : Int) < (k : Int) := by omega
      have C1 := Lib.hid (err_ce HC.out)
      by_cases he : t.err = 0
      case neg =>
        have d0 : (t.err == 0) = false := by simp [he]
        have HE : Hid (t = F) := by show t = F; rw [← HF.out, pgsT_err he]
        clear HF he
        go_wp2_with fail
        refine C1.out.mono ?_
        rintro e W ⟨rfl, rfl⟩
        go_wp2
        go_end0
        exact ⟨rfl, HM0.out.trans HM.out, by rw [← HE.out]; exact HC.out⟩
      have d0 : (t.err == 0) = true := by simp [he]
      obtain ⟨hb1, hb2⟩ := hbd.out he
      have HF2 : Hid (pgsT vr r n gk (v + (pgV t).1) (pgl lc t) (pgT vr r n v lc t) = F) := by
        show _ = F
        rw [← HF.out]
        show _ = (if t.err ≠ 0 then t else _)
        rw [if_neg (fun hh => hh he)]
      have HOK : Hid ((pgT vr r n v lc t).err = 0 → v + (pgV t).1 ≤ 1048576 ∧ pgl lc t ≤ 2097153) := fun h9 => by
        obtain ⟨k1, k2⟩ := pgT_ok21 h9
        exact ⟨by omega, locS_le21 hr.2 hn.2 k2⟩
      have hsr := pgV_rng (s := t)
      have htr := pgL_rng (s := t)
      have HPT : Hid (pgT vr r n v lc t = if locS (pgl lc t) r n = false then failE 10 (pg1 vr v t) else pg1 vr v t) := rfl
      have HP1 : Hid (pg1 vr v t = if vr ≤ v + (pgV t).1 then failE 9 (pgL t).2 else (pgL t).2) := rfl
      have HPL : Hid (pgl lc t = (if 0 < (pgV t).1 then -1 else lc) + (1 + (pgL t).1)) := rfl
      have C2 := Lib.hid (step_ce21 HC.out)
      have HLL : Hid (pgL t = numE 2097153 6 (pgV t).2) := rfl
      obtain ⟨⟨dv, t1⟩, hd⟩ : ∃ y, pgV t = y := ⟨_, rfl⟩
      have hd' : numE 2097153 6 t = (dv, t1) := hd
      obtain ⟨⟨dl, t2⟩, hl⟩ : ∃ y, pgL t = y := ⟨_, rfl⟩
      obtain ⟨u, hu⟩ : ∃ y, pgT vr r n v lc t = y := ⟨_, rfl⟩
      obtain ⟨u1, hu1⟩ : ∃ y, pg1 vr v t = y := ⟨_, rfl⟩
      obtain ⟨l2, hl2⟩ : ∃ y, pgl lc t = y := ⟨_, rfl⟩
      rw [hd'] at C2
      rw [hd, hl2, hu] at HF2 HOK
      rw [hu, hl2, hu1] at HPT
      rw [hu1, hd, hl] at HP1
      rw [hl2, hd, hl] at HPL
      rw [hl, hd] at HLL
      rw [hd] at hsr
      rw [hl] at htr
      dsimp only at C2 HF2 HOK HPT HP1 HPL HLL hsr htr
      clear hd hd' hl hu hu1 hl2 HF he hbd
      have hl20 : 0 ≤ l2 ∧ l2 ≤ 8388608 := by
        have := HPL.out
        split at this <;> omega
      go_wp2_with fail
      refine C1.out.mono ?_
      rintro e W ⟨rfl, rfl⟩
      clear C1
      go_wp2_with fail
      refine C2.out.mono ?_
      rintro e W2 ⟨rfl, hm, hc⟩
      have HM2 := Lib.hid (HM.out.trans hm)
      have HC2 := Lib.hid hc
      clear hm hc C2 HM HC
      obtain ⟨l1, hl1'⟩ : ∃ l1, (if 0 < dv then -1 else lc) = l1 := ⟨_, rfl⟩
      rw [hl1'] at HPL
      have hl1r : -1 ≤ l1 ∧ l1 ≤ 2097153 := by rw [← hl1']; split <;> omega
      have HL1 := Lib.hid hl1'
      clear hl1'
      go_upto_if 26 with fail
      go_cut [9] from 12 (fun s9 wx => s9 = .int .i64 l1 ∧ wx = W2)
      case first =>
        by_cases h18 : 0 < dv
        · have hb : Hid ((-1 : Int) = l1) := by show _ = _; rw [← HL1.out, if_pos h18]
          go_wp2_with fail
          go_meet
          case rel => exact ⟨by rw [← hb.out], rfl⟩
        · have hb : Hid (lc = l1) := by show _ = _; rw [← HL1.out, if_neg h18]
          go_wp2_with fail
          go_meet
          case rel => exact ⟨by rw [hb.out], rfl⟩
      case rest =>
        obtain ⟨hs9, hwc⟩ := hcut
        subst hs9 hwc
        clear HL1
        have C3 := Lib.hid (step_ce21 HC2.out)
        rw [← HLL.out] at C3
        dsimp only at C3
        obtain ⟨v2, hv2⟩ : ∃ v2, v + dv = v2 := ⟨_, rfl⟩
        have hv2r : 0 ≤ v2 ∧ v2 ≤ 4194304 := by omega
        rw [hv2] at HF2 HOK HP1
        go_wp2_with fail
        refine C3.out.mono ?_
        rintro e W3 ⟨rfl, hm, hc⟩
        have HM3 := Lib.hid (HM2.out.trans hm)
        have HC3 := Lib.hid hc
        clear hm hc C3 HM2 HC2 HLL
        have C4 := Lib.hid (dfail_ce HC3.out (decide (vr ≤ v2)) 9 (by decide))
        have hu1 : (if decide (vr ≤ v2) = true then failE 9 t2 else t2) = u1 := by
          rw [HP1.out]
          by_cases h9 : vr ≤ v2
          · rw [if_pos h9, if_pos (by simpa using h9)]
          · rw [if_neg h9, if_neg (by simpa using h9)]
        rw [hu1] at C4
        have c1 : W3.cell? ⟨x6, 1, none⟩ = some (.int .i64 vr) := (R6.out.mods HM3.out (by unfold Is; omega)).cell 1
        have el : l1 + (1 + dl) = l2 := HPL.out.symm
        clear hu1 HP1 HPL
        go_upto_region 10 with fail
        clear hv2 el
        go_wp2_with fail
        refine C4.out.mono ?_
        rintro e W4 ⟨rfl, hm, hc⟩
        have HM4 := Lib.hid (HM3.out.trans hm)
        have HC4 := Lib.hid hc
        clear hm hc C4 HM3 HC3 c1
        have hR7 := R7.out.mods HM4.out (by unfold Is; omega)
        have g0 : W4.cell? ⟨x7, 0, none⟩ = some (.int .i64 ta) := hR7.cell 0
        have g1 : W4.cell? ⟨x7, 1, none⟩ = some (.int .i64 r) := hR7.cell 1
        have g2 : W4.cell? ⟨x7, 2, none⟩ = some (.int .i64 n) := hR7.cell 2
        have g3 : W4.cell? ⟨x7, 3, none⟩ = some (.int .i64 tb) := hR7.cell 3
        have C5 := Lib.hid (dinr_any l2 ta r n tb W4 hl20.1 (by omega))
        obtain ⟨bb, hbb⟩ : ∃ bb, locS l2 r n = bb := ⟨_, rfl⟩
        rw [hbb] at C5 HPT
        clear hR7 hbb
        go_wp2_with fail
        refine C5.out.mono ?_
        rintro e W5 ⟨rfl, hb5⟩
        have HM5 := Lib.hid (HM4.out.trans (Mods.of_below hb5))
        have HC5 := Lib.hid (HC4.out.mods (S := No) (Mods.of_below hb5) fun _ hk => hk.elim)
        clear hb5 C5 HM4 HC4 g0 g1 g2 g3
        have C6 := Lib.hid (dfail_ce HC5.out (!bb) 10 (by decide))
        have hu : (if (!bb) = true then failE 10 u1 else u1) = u := by rw [HPT.out]; cases bb <;> rfl
        rw [hu] at C6
        clear hu HPT
        go_wp2_with fail
        refine C6.out.mono ?_
        rintro e W6 ⟨rfl, hm, hc⟩
        have HM6 := Lib.hid (HM5.out.trans hm)
        have HC6 := Lib.hid hc
        clear hm hc C6 HM5 HC5
        go_wp2
        go_roundg gk
        case measure => omega
        case rel => exact ⟨m + 1, v2, l2, u, by omega, rfl, rfl, rfl, by omega, by omega, by omega, by omega, HOK.out, HF2.out, HM6.out, HC6.out⟩

set_option maxRecDepth 100000 in
set_option maxHeartbeats 8000000 in
theorem dinvs_any {w : World} {lo p : Nat} {l : List Nat} {A : Option Addr} {c : Nat} {s : Ip} {q : Nat} {b0 i0 p0 y0 : Int} (h : KC w lo p l A c s q (COS b0 i0 p0 y0) w) (sa vr sn ta r n tb : Int) (sb : Int) (hv : 0 ≤ vr ∧ vr ≤ 1048576) (hr : 0 ≤ r ∧ r ≤ 1048576) (hn : 0 ≤ n ∧ n ≤ 1048576) (hb : 0 ≤ sb ∧ sb ≤ 1048576)
    (hp0 : 0 ≤ p0) (hpt : p0 + cP vr r n sb.toNat 0 s ≤ 1152921504606846976) :
    Calls Try.prog 46 #[.pointer (some ⟨p, 0, none⟩), .agg (SZS sa vr sn sb), .agg (SZS ta r n tb), .agg (ADD q)] w fun e w' => e = .returned (.tuple #[]) ∧ ∃ t, KC w lo p l A c t q (COS b0 i0 (p0 + cP vr r n sb.toNat 0 s) y0) w' := by
  have hKI : ∀ args W, (callFunc 25 args).run Try.prog W = .ok (.enter 25 args) W := fun args W => enters_of Try.func25 (by kernel_rfl) rfl args W
  have HKI := Lib.hid hKI
  obtain ⟨Tot, hTot⟩ : ∃ T, p0 + cP vr r n sb.toNat 0 s = T := ⟨_, rfl⟩
  rw [hTot] at hpt ⊢
  have HT := Lib.hid hTot
  have H0 := Lib.hid (((h.alloc (.cells (SZS sa vr sn sb) 84)).alloc (.cells (SZS ta r n tb) 84)).alloc (.cells (ADD q) 50))
  have R5 := Lib.hid (((Row.new w 84 (SZS sa vr sn sb)).alloc (.cells (SZS ta r n tb) 84)).alloc (.cells (ADD q) 50))
  have R6 := Lib.hid ((Row.new (w.alloc (.cells (SZS sa vr sn sb) 84)) 84 (SZS ta r n tb)).alloc (.cells (ADD q) 50))
  have R7 := Lib.hid (Row.new ((w.alloc (.cells (SZS sa vr sn sb) 84)).alloc (.cells (SZS ta r n tb) 84)) 50 (ADD q))
  rw [show (w.alloc (.cells (SZS sa vr sn sb) 84)).heap.size = w.heap.size + 1 by simp] at R6
  rw [show ((w.alloc (.cells (SZS sa vr sn sb) 84)).alloc (.cells (SZS ta r n tb) 84)).heap.size = w.heap.size + 1 + 1 by simp] at R7
  have hpw := h.pw
  have hqw := h.q1
  clear h hTot hKI
  go_enter Try.func46, Try.ntmps46
  go_upto_region 1 with fail
  generalize (((w.alloc (.cells (SZS sa vr sn sb) 84)).alloc (.cells (SZS ta r n tb) 84)).alloc (.cells (ADD q) 50)) = W1 at *
  obtain ⟨x5, hx5⟩ : ∃ x, w.heap.size = x := ⟨_, rfl⟩
  obtain ⟨x6, hx6⟩ : ∃ x, w.heap.size + 1 = x := ⟨_, rfl⟩
  obtain ⟨x7, hx7⟩ : ∃ x, w.heap.size + 1 + 1 = x := ⟨_, rfl⟩
  rw [hx5] at R5
  rw [hx6] at R6
  rw [hx7] at R7
  rw [hx7, hx6, hx5]
  have h56 : x5 < x6 := by omega
  have h67 : x6 < x7 := by omega
  have hp5 : p < x5 := by omega
  have hq5 : q < x5 := by omega
  clear hx5 hx6 hx7
  have HM0 := Lib.hid H0.out.md
  have H1 : Hid (KC W1 lo p l A c s q (COS b0 i0 p0 y0) W1) := KC.start H0.out.ce H0.out.bx H0.out.qp.1
  clear H0
  have hbn : ((sb.toNat : Nat) : Int) = sb := by omega
  go_wp2
  go_loopg [8, 9] sb.toNat (fun gk v8 v9 wr => ∃ (m : Nat) (tot p' : Int) (t : Ip), m + gk = sb.toNat ∧ v8 = .int .i64 (1048576 - tot) ∧ v9 = .int .i64 m ∧ 0 ≤ tot ∧ tot ≤ 2097152 ∧ 0 ≤ p' ∧ Hid (t.err = 0 → tot ≤ 1048576) ∧ Hid (p' + cP vr r n gk tot t = Tot) ∧ Hid (KC W1 lo p l A c t q (COS b0 i0 p' y0) wr))
  case atStart => exact ⟨0, 0, p0, s, by omega, rfl, rfl, by omega, by omega, hp0, (fun _ => by decide), HT.out, H1.out⟩
  case round =>
    clear H1 HT
    obtain ⟨m, tot, p', t, hmk, rfl, rfl, ht0, ht1, hp', htl, HT, HC⟩ := hrel
    have c3 : wr.cell? ⟨x5, 3, none⟩ = some (.int .i64 sb) := (HC.out.row R5.out (by omega) (by omega)).cell 3
    cases gk with
    | zero =>
      have hlt : ¬ (m : Int) < sb := by omega
      have HE2 : Hid (p' = Tot) := by show p' = Tot; rw [← HT.out]; exact (Int.add_zero _).symm
      clear HT
      go_wp2
      go_end0
      exact ⟨rfl, t, by rw [← HE2.out]; exact HC.out.after HM0.out hpw⟩
    | succ gk =>
      have hlt : (m : Int) < sb := by omega
      have C1 := Lib.hid (err_ce HC.out.ce)
      by_cases he : t.err = 0
      case neg =>
        have d0 : (t.err == 0) = false := by simp [he]
        have HE2 : Hid (p' = Tot) := by show p' = Tot; rw [← HT.out, cP_err he]; exact (Int.add_zero _).symm
        clear HT he
        go_wp2_with fail
        refine C1.out.mono ?_
        rintro e W ⟨rfl, rfl⟩
        go_wp2
        go_end0
        exact ⟨rfl, t, by rw [← HE2.out]; exact HC.out.after HM0.out hpw⟩
      have d0 : (t.err == 0) = true := by simp [he]
      have htm := htl.out he
      have hkr := cntE_rng (k := 2) (s := t)
      have HT2 : Hid (p' + ((cntE 2 t).1 + cP vr r n gk (tot + (cntE 2 t).1) (pvT vr r n tot t)) = Tot) := by
        show _ = Tot
        rw [← HT.out, cP_step21 hv.2 hr.2 hn.2 he]
      obtain ⟨u, hu⟩ : ∃ u, (icE tot t).2 = u := ⟨_, rfl⟩
      have HU : Hid ((if 1048576 < tot + (cntE 2 t).1 then failE 6 (cntE 2 t).2 else (cntE 2 t).2) = u) := by show _ = _; rw [← hu]; rfl
      have HBT : Hid (pvT vr r n tot t = pgsT vr r n (cntE 2 t).1.toNat 0 (-1) u) := by show _ = _; rw [← hu]; rfl
      have hle : p' + (cntE 2 t).1 ≤ Tot := by
        have := cP_nn (vr := vr) (r := r) (n := n) gk (tot + (cntE 2 t).1) (pvT vr r n tot t)
        have := HT2.out
        omega
      have HA : ∀ W, Row W q 25 (COS b0 i0 p' y0) → Calls Try.prog 25 #[.int .i64 (cntE 2 t).1, .pointer (some ⟨q, 0, none⟩)] W fun e w' => e = .returned (.tuple #[]) ∧ Mods (Is q) W w' ∧ Row w' q 25 (COS b0 i0 (p' + (cntE 2 t).1) y0) := fun W hR => daddP_any hR (by omega) (by omega)
      have C2 := Lib.hid (dcount_any HC.out.ce 2 (by decide) (by decide) 25 HKI.out HC.out.bx (.inl HC.out.qp.1) HA)
      obtain ⟨⟨n2, s2⟩, hk⟩ : ∃ y, cntE 2 t = y := ⟨_, rfl⟩
      rw [hk] at hkr HT2 HU HBT C2 hle
      dsimp only at hkr HT2 HU HBT C2 hle
      obtain ⟨kk, rfl⟩ : ∃ kk : Nat, n2 = (kk : Int) := ⟨n2.toNat, by omega⟩
      have HEL : Hid (u.err = 0 → tot + kk ≤ 1048576) := fun h9 => by
        by_cases h8 : 1048576 < tot + (kk : Int)
        · have := HU.out
          rw [if_pos h8] at this
          rw [← this] at h9
          exact absurd h9 (failE_err (by decide))
        · omega
      clear HT he hk hu htl HA
      have d1 : wr.cell? ⟨x7, 2, none⟩ = some (.func (.func 25) #[] #[.pointer (some ⟨q, 0, none⟩)]) := (HC.out.row R7.out (by omega) (by omega)).cell 2
      go_wp2_with fail
      refine C1.out.mono ?_
      rintro e W ⟨rfl, rfl⟩
      clear C1
      go_wp2_with fail
      refine C2.out.mono ?_
      rintro e W3 ⟨rfl, hm, hc, hbx⟩
      have HC3 := Lib.hid (HC.out.upd hm hc hbx)
      clear hm hc hbx C2 HC c3 d1
      have C3 := Lib.hid (dfail_ce HC3.out.ce (decide (1048576 - tot < (kk : Int))) 6 (by decide))
      have hu3 : (if decide (1048576 - tot < (kk : Int)) = true then failE 6 s2 else s2) = u := by
        rw [← HU.out]
        by_cases h9 : 1048576 - tot < (kk : Int)
        · rw [if_pos (by simpa using h9), if_pos (by omega)]
        · rw [if_neg (by simpa using h9), if_neg (by omega)]
      rw [hu3] at C3
      clear hu3 HU
      go_wp2_with fail
      refine C3.out.mono ?_
      rintro e W4 ⟨rfl, hm, hc⟩
      have HC4 := Lib.hid (HC3.out.next hm hc)
      clear hm hc C3 HC3
      have C4 := Lib.hid (dpairs_any HC4.out.ce kk (by omega) sa vr sn sb ta r n tb hv hr hn)
      unfold SZS at C4
      have e9 : ((kk : Int).toNat) = kk := by omega
      rw [e9] at HBT
      obtain ⟨u2, hu2⟩ : ∃ u2, pgsT vr r n kk 0 (-1) u = u2 := ⟨_, rfl⟩
      rw [hu2] at C4 HBT
      rw [HBT.out] at HT2
      have HCE : Hid (u2.err = 0 → u.err = 0) := fun h9 => by
        by_cases h8 : u.err = 0
        · exact h8
        · rw [pgsT_err h8] at hu2
          rw [← hu2] at h9
          exact absurd h9 h8
      clear hu2 e9 HBT
      have hR5 := HC4.out.row R5.out (by omega) (by omega)
      have hR6 := HC4.out.row R6.out (by omega) (by omega)
      have g0 : W4.cell? ⟨x5, 0, none⟩ = some (.int .i64 sa) := hR5.cell 0
      have g1 : W4.cell? ⟨x5, 1, none⟩ = some (.int .i64 vr) := hR5.cell 1
      have g2 : W4.cell? ⟨x5, 2, none⟩ = some (.int .i64 sn) := hR5.cell 2
      have g3 : W4.cell? ⟨x5, 3, none⟩ = some (.int .i64 sb) := hR5.cell 3
      have j0 : W4.cell? ⟨x6, 0, none⟩ = some (.int .i64 ta) := hR6.cell 0
      have j1 : W4.cell? ⟨x6, 1, none⟩ = some (.int .i64 r) := hR6.cell 1
      have j2 : W4.cell? ⟨x6, 2, none⟩ = some (.int .i64 n) := hR6.cell 2
      have j3 : W4.cell? ⟨x6, 3, none⟩ = some (.int .i64 tb) := hR6.cell 3
      clear hR5 hR6
      go_wp2_with fail
      refine C4.out.mono ?_
      rintro e W5 ⟨rfl, hm, hc⟩
      have HC5 := Lib.hid (HC4.out.next hm hc)
      clear hm hc C4 HC4 g0 g1 g2 g3 j0 j1 j2 j3
      go_wp2
      go_roundg gk
      case measure => omega
      case rel => exact ⟨m + 1, tot + kk, p' + kk, u2, by omega, congrArg (Value.int .i64) (by omega), rfl, by omega, by omega, by omega, (fun h9 => HEL.out (HCE.out h9)), by show _ = _; rw [← HT2.out]; omega, HC5.out⟩

end Go.Proofs.Ytkapmfopfddmbaa
