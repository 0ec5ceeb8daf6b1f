/-
  The program of layer 21: the lengths of the sections.
-/
import Derived.Test.YtkapmfopfddmbaaGreatDcPd
import Derived.Test.YtkapmfopfddmbaaGreatPk20
namespace Go.Proofs.YtkapmfopfddmbaaGreat
open Go.RowKit
set_option linter.unusedVariables false
set_option linter.unusedSimpArgs false

/-- The lengths that are still to be read. -/
def secT (ids : List Nat) (t : Ip) : Nat := if t.err ≠ 0 then 0 else secL ids t.rest

def leftT (t : Ip) : Int := if t.err = 0 then (t.rest.length : Int) else 0

theorem secT_step {id : Nat} {ids : List Nat} {t : Ip} (hid : id ≠ 0) :
    (byV t ≠ id → secT (id :: ids) t = 0) ∧ (byV t = id → leftT (rawT (byT t)) < (rawV (byT t) : Int) → secT (id :: ids) t = 0) ∧
    (byV t = id → ¬ leftT (rawT (byT t)) < (rawV (byT t) : Int) → secT (id :: ids) t = rawV (byT t) + secT ids ⟨(rawT (byT t)).rest.drop (rawV (byT t)), (rawT (byT t)).err⟩) := by
  obtain ⟨l, e⟩ := t
  by_cases h0 : e ≠ 0
  · have hv : byV ⟨l, e⟩ = 0 := if_pos h0
    rw [hv]
    exact ⟨fun _ => if_pos h0, fun h => absurd h.symm hid, fun h => absurd h.symm hid⟩
  have he : e = 0 := by omega
  subst he
  cases l with
  | nil =>
    have hv : byV ⟨[], 0⟩ = 0 := rfl
    rw [hv]
    exact ⟨fun _ => rfl, fun h => absurd h.symm hid, fun h => absurd h.symm hid⟩
  | cons x r =>
    have hv : byV ⟨x :: r, 0⟩ = x := rfl
    have ht : byT ⟨x :: r, 0⟩ = ⟨r, 0⟩ := rfl
    have hs : ∀ ids, secT ids ⟨x :: r, 0⟩ = secL ids (x :: r) := fun _ => rfl
    have ho : oneS id (x :: r) = if x ≠ id then (7, 0, 0) else if (getS r).2.2 ≠ 0 then ((getS r).2.2, 0, 0) else if r.length < (getS r).2.1 + (getS r).1 then (1, 0, 0) else (0, 1 + (getS r).2.1, (getS r).1) := rfl
    have hl : secL (id :: ids) (x :: r) = if (oneS id (x :: r)).1 ≠ 0 then 0 else (oneS id (x :: r)).2.2 + secL ids ((x :: r).drop ((oneS id (x :: r)).2.1 + (oneS id (x :: r)).2.2)) := rfl
    rw [hv, ht, hs, hl]
    refine ⟨fun h => ?_, fun h h2 => ?_, fun h h2 => ?_⟩
    · have ho2 : oneS id (x :: r) = (7, 0, 0) := by rw [ho, if_pos h]
      rw [ho2, if_pos (by decide)]
    · have hx : ¬ x ≠ id := fun hh => hh h
      by_cases h1 : (getS r).2.2 ≠ 0
      · have ho2 : oneS id (x :: r) = ((getS r).2.2, 0, 0) := by rw [ho, if_neg hx, if_pos h1]
        rw [ho2, if_pos h1]
      · have hr : rawT ⟨r, 0⟩ = ⟨r.drop (getS r).2.1, 0⟩ := by unfold rawT; rw [if_neg (fun hh => hh rfl), if_neg h1]
        have hw : rawV ⟨r, 0⟩ = (getS r).1 := by unfold rawV; rw [hr]; rfl
        rw [hr, hw] at h2
        unfold leftT at h2
        dsimp only at h2
        rw [if_pos rfl, List.length_drop] at h2
        have h3 := getS_len r
        have ho2 : oneS id (x :: r) = (1, 0, 0) := by rw [ho, if_neg hx, if_neg h1, if_pos (by omega)]
        rw [ho2, if_pos (by decide)]
    · have hx : ¬ x ≠ id := fun hh => hh h
      by_cases h1 : (getS r).2.2 ≠ 0
      · have hr : rawT ⟨r, 0⟩ = ⟨[], ((getS r).2.2 : Int)⟩ := by unfold rawT; rw [if_neg (fun hh => hh rfl), if_pos h1]
        have hw : rawV ⟨r, 0⟩ = 0 := by unfold rawV; rw [hr, if_neg (by dsimp only; omega)]
        have ho2 : oneS id (x :: r) = ((getS r).2.2, 0, 0) := by rw [ho, if_neg hx, if_pos h1]
        rw [ho2, if_pos h1, hr, hw]
        unfold secT
        rw [if_pos (by dsimp only; omega)]
      · have hr : rawT ⟨r, 0⟩ = ⟨r.drop (getS r).2.1, 0⟩ := by unfold rawT; rw [if_neg (fun hh => hh rfl), if_neg h1]
        have hw : rawV ⟨r, 0⟩ = (getS r).1 := by unfold rawV; rw [hr]; rfl
        rw [hr, hw] at h2 ⊢
        unfold leftT at h2
        dsimp only at h2
        rw [if_pos rfl, List.length_drop] at h2
        have h3 := getS_len r
        have ho2 : oneS id (x :: r) = (0, 1 + (getS r).2.1, (getS r).1) := by rw [ho, if_neg hx, if_neg h1, if_neg (by omega)]
        rw [ho2, if_neg (fun hh => hh rfl)]
        unfold secT
        rw [if_neg (fun hh => hh rfl)]
        dsimp only
        rw [List.drop_drop, show 1 + (getS r).2.1 + (getS r).1 = (getS r).2.1 + (getS r).1 + 1 by omega, List.drop_succ_cons]

theorem skip_ce21 {w : World} {lo p : Nat} {l : List Nat} {A : Option Addr} {c : Nat} {t : Ip} (h : CE lo p l A c t w) (hl : l.length ≤ 1000000) {n : Nat} (hn : (n : Int) ≤ leftT t) :
    Calls Tryz.prog 19 #[.pointer (some ⟨p, 0, none⟩), .int .i64 n] w fun e w' => ∃ v, e = .returned v ∧ Mods (Is p) w w' ∧ CE lo p l A c ⟨t.rest.drop n, t.err⟩ w' := by
  obtain ⟨i, hc, hr⟩ := h
  have hle := hc.le
  have hln : t.err = 0 → t.rest.length = l.length - i := fun h0 => by rw [← hr h0, List.length_drop]
  have hnl : (n : Int) ≤ 1000000 := by
    unfold leftT at hn
    by_cases h0 : t.err = 0
    · rw [if_pos h0] at hn
      have := hln h0
      omega
    · rw [if_neg h0] at hn
      omega
  refine (bytes_any hc n (by omega) (by omega)).mono ?_
  rintro e w' ⟨A', c', rfl, hm, hc2, ho, _⟩
  refine ⟨_, rfl, hm, ?_⟩
  by_cases h0 : t.err = 0
  · unfold leftT at hn
    rw [if_pos h0] at hn
    have hb : bytesS n (l.drop i) = (0, n, 0) := by
      unfold bytesS
      rw [hr h0, if_neg (by omega), if_neg (by omega), Int.toNat_natCast]
    rw [hb, h0] at hc2
    refine ⟨_, by rw [h0]; exact hc2, fun _ => ?_⟩
    have e1 : stepI i 0 (0, n, 0) = i + n := if_pos ⟨rfl, rfl⟩
    rw [e1, ← hr h0, List.drop_drop]
  · have e1 : stepE t.err (bytesS n (l.drop i)) = t.err := if_neg h0
    rw [e1] at hc2
    exact ⟨_, hc2, fun h9 => absurd h9 h0⟩

theorem dids_any (w : World) : Calls Tryz.prog 24 #[] w fun e w' => ∃ g, e = .returned (.slice (some ⟨g, 0, none⟩) 3 3) ∧ w'.ownsRow w.heap.size 5 1 (.slice (some ⟨g, 0, none⟩) 3 3) 3 (bts ids20) ∧ Row w' g 5 #[.int .u8 1, .int .u8 2, .int .u8 3] ∧ w.heap.size ≤ g ∧ Below w.heap.size w w' := by
  have HB := Lib.hid ((Below.refl w.heap.size w).alloc (Nat.le_refl _) (.cells #[.int .u8 1, .int .u8 2, .int .u8 3] 5))
  have HR := Lib.hid (Row.new w 5 #[.int .u8 1, .int .u8 2, .int .u8 3])
  go_enter Tryz.func24, Tryz.ntmps24
  go_wp2
  go_ret
  exact ⟨w.heap.size, rfl, ⟨rfl, .inr ⟨w.heap.size, 3, _, rfl, Nat.le_refl _, HR.out, by decide, by decide, rfl, rfl⟩⟩, HR.out, Nat.le_refl _, HB.out⟩

theorem CE.len21 {w : World} {lo p : Nat} {l : List Nat} {A : Option Addr} {c : Nat} {t : Ip} (h : CE lo p l A c t w) : 0 ≤ leftT t ∧ leftT t ≤ l.length := by
  obtain ⟨i, hc, hr⟩ := h
  unfold leftT
  by_cases h0 : t.err = 0
  · rw [if_pos h0, ← hr h0, List.length_drop]
    omega
  · rw [if_neg h0]
    omega

theorem ids_at21 {m : Nat} (hm : m < 3) : ∃ id, ids20.drop m = id :: ids20.drop (m + 1) ∧ (#[.int .u8 1, .int .u8 2, .int .u8 3] : Array Value)[m]? = some (.int .u8 (id : Int)) ∧ id ≠ 0 ∧ id < 256 := by
  rcases (by omega : m = 0 ∨ m = 1 ∨ m = 2) with rfl | rfl | rfl
  · exact ⟨1, rfl, rfl, by decide, by decide⟩
  · exact ⟨2, rfl, rfl, by decide, by decide⟩
  · exact ⟨3, rfl, rfl, by decide, by decide⟩

set_option maxRecDepth 100000 in
set_option maxHeartbeats 8000000 in
theorem dlens_any (A : Option Addr) (l : List Nat) (k : Nat) {w : World} {q : Nat} {b0 i0 p0 y0 : Int} (hs : Sees w w.heap.size A (bts l)) (hby : Byt l) (hm : l.length ≤ 1000000) (hq : Row w q 37 (COS b0 i0 p0 y0)) (hy0 : 0 ≤ y0 ∧ y0 ≤ 1000000) :
    Calls Tryz.prog 21 #[.slice A l.length k, .func (.func 22) #[] #[.pointer (some ⟨q, 0, none⟩)]] w fun e w' => e = .returned (.tuple #[]) ∧ Mods (Is q) w w' ∧ Row w' q 37 (COS b0 i0 p0 (y0 + secL ids20 l)) := by
  have CN := Lib.hid (new_ce20 A l k w hs hby hm)
  have HQ := Lib.hid hq
  have hqw := hq.lt
  have hle := secL_le ids20 l
  obtain ⟨Tot, hTot⟩ : ∃ T : Int, y0 + secL ids20 l = T := ⟨_, rfl⟩
  rw [hTot]
  have htb : Tot ≤ 2000000 := by omega
  have HT : Hid (y0 + (secT (ids20.drop 0) ⟨l, 0⟩ : Nat) = Tot) := hTot
  obtain ⟨n, hn⟩ : ∃ n, l.length = n := ⟨_, rfl⟩
  rw [hn] at CN hm ⊢
  have HN := Lib.hid hn
  clear hs hby hq hTot hle hn
  go_enter Tryz.func21, Tryz.ntmps21
  go_wp2_with fail
  refine CN.out.mono ?_
  rintro e W0 ⟨p, A', c', rfl, hp, hc, hb⟩
  have HK0 : Hid (KC W0 w.heap.size p l A' c' ⟨l, 0⟩ q (COS b0 i0 p0 y0) W0) := KC.start hc (HQ.out.below hb hqw) hqw
  have HB0 := Lib.hid hb
  clear hc hb CN HQ
  have CI := Lib.hid (dids_any W0)
  go_wp2_with fail
  refine CI.out.mono ?_
  rintro e W1 ⟨g, rfl, _, hr, hg, hb⟩
  have HK1 := Lib.hid (HK0.out.below hb)
  have HR := Lib.hid hr
  have hpg : p < g := by have := HK0.out.pw; omega
  clear hr hb CI HK0
  have HB1 : Hid (Mods (Is q) w W1) := (Mods.of_below HB0.out).then HK1.out.md fun k hk => by unfold Two at hk; unfold Is; omega
  have H1 : Hid (KC W1 w.heap.size p l A' c' ⟨l, 0⟩ q (COS b0 i0 p0 y0) W1) := KC.start HK1.out.ce HK1.out.bx hqw
  clear HB0 HK1 hg
  go_wp2
  go_loopg [12] 3 (fun gk v12 wr => ∃ (m : Nat) (t : Ip) (y' : Int), m + gk = 3 ∧ v12 = .int .i64 m ∧ 0 ≤ y' ∧ Hid (y' + (secT (ids20.drop m) t : Nat) = Tot) ∧ Hid (KC W1 w.heap.size p l A' c' t q (COS b0 i0 p0 y') wr))
  case atStart => exact ⟨0, ⟨l, 0⟩, y0, by omega, rfl, hy0.1, HT.out, H1.out⟩
  case round =>
    clear H1 HT
    obtain ⟨m, t, y', hmk, rfl, hy', HT, HC⟩ := hrel
    have HFIN : ∀ W y2 t2, KC W1 w.heap.size p l A' c' t2 q (COS b0 i0 p0 y2) W → y2 = Tot → Mods (Is q) w W ∧ Row W q 37 (COS b0 i0 p0 Tot) := fun W y2 t2 h h2 => ⟨HB1.out.then h.md fun k hk => by unfold Two at hk; unfold Is; omega, h2 ▸ h.bx⟩
    replace HFIN := Lib.hid HFIN
    cases gk with
    | zero =>
      have hm3 : m = 3 := by omega
      subst hm3
      have HE : Hid (y' = Tot) := by
        show y' = Tot
        rw [← HT.out]
        have : secT (ids20.drop 3) t = 0 := by unfold secT; split <;> rfl
        rw [this]
        omega
      clear HT
      go_wp2
      go_end0
      exact ⟨rfl, HFIN.out _ _ _ HC.out HE.out⟩
    | succ gk =>
      have hlt : m < 3 := by omega
      obtain ⟨id, hid1, hid2, hid0, hid3⟩ := ids_at21 hlt
      obtain ⟨st1, st2, st3⟩ := secT_step (ids := ids20.drop (m + 1)) (t := t) hid0
      rw [← hid1] at st1 st2 st3
      have HS1 := Lib.hid st1
      have HS2 := Lib.hid st2
      have HS3 := Lib.hid st3
      have c0 : wr.cell? ⟨g, 0 + m, none⟩ = some (.int .u8 (id : Int)) := by
        rw [Nat.zero_add, (HC.out.row HR.out (by omega) (by have := HC.out.qp; omega)).cell m]
        exact hid2
      have c0' : wr.cell? ⟨g, m, none⟩ = some (.int .u8 (id : Int)) := by rw [Nat.zero_add] at c0; exact c0
      have hltI : (m : Int) < 3 := by omega
      have C1 := Lib.hid (byte_ce HC.out.ce)
      have hbl := byt_ce20 HC.out.ce
      clear st1 st2 st3 hid1 hid2
      obtain ⟨bv, hbv⟩ : ∃ bv, byV t = bv := ⟨_, rfl⟩
      obtain ⟨t1, ht1⟩ : ∃ t1, byT t = t1 := ⟨_, rfl⟩
      rw [hbv, ht1] at C1 HS2 HS3
      rw [hbv] at HS1 hbl
      clear hbv ht1
      go_upto_region 4 with fail
      clear c0 c0'
      by_cases hbi : bv = id
      case neg =>
        have d0 : ((bv : Int) != (id : Int)) = true := by simp; omega
        have HE : Hid (y' = Tot) := by
          show y' = Tot
          rw [← HT.out, HS1.out hbi]
          omega
        clear HT HS1 HS2 HS3 hbi
        go_wp2_with fail
        refine C1.out.mono ?_
        rintro e W2 ⟨rfl, hm, hc⟩
        have HC2 := Lib.hid (HC.out.next hm hc)
        clear hm hc C1 HC
        go_wp2
        refine bodyPost_ret (results_none rfl _ _ _) rfl ?_
        exact ⟨rfl, HFIN.out _ _ _ HC2.out HE.out⟩
      have d0 : ((bv : Int) != (id : Int)) = false := by simp; omega
      replace HS2 := Lib.hid (HS2.out hbi)
      replace HS3 := Lib.hid (HS3.out hbi)
      clear HS1 hbi
      go_wp2_with fail
      refine C1.out.mono ?_
      rintro e W2 ⟨rfl, hm, hc⟩
      have HC2 := Lib.hid (HC.out.next hm hc)
      clear hm hc C1 HC
      have C2 := Lib.hid (uint_ce HC2.out.ce)
      obtain ⟨t2, ht2⟩ : ∃ t2, rawT t1 = t2 := ⟨_, rfl⟩
      obtain ⟨v, hv⟩ : ∃ v, rawV t1 = v := ⟨_, rfl⟩
      have hvlt := rawV_lt (t := t1) HC2.out.ce.byt
      rw [ht2, hv] at C2 HS2 HS3
      rw [hv] at hvlt
      clear ht2 hv
      go_wp2_with fail
      refine C2.out.mono ?_
      rintro e W3 ⟨rfl, hm, hc⟩
      have HC3 := Lib.hid (HC2.out.next hm hc)
      clear hm hc C2 HC2
      have C3 := Lib.hid (rest_ce20 HC3.out.ce (by rw [HN.out]; exact hm))
      obtain ⟨hl0, hl1⟩ := HC3.out.ce.len21
      rw [show (if t2.err = 0 then (t2.rest.length : Int) else 0) = leftT t2 from rfl] at C3
      rw [HN.out] at hl1
      obtain ⟨L, hL⟩ : ∃ L : Nat, leftT t2 = (L : Int) := ⟨(leftT t2).toNat, by omega⟩
      have HSK := Lib.hid (fun W (h : CE w.heap.size p l A' c' t2 W) (h2 : (v : Int) ≤ (L : Int)) => skip_ce21 h (by rw [HN.out]; exact hm) (n := v) (by rw [hL]; exact h2))
      rw [hL] at C3 HS2 HS3 hl1
      clear hL hl0
      obtain ⟨vI, hvI⟩ : ∃ vI : Int, (v : Int) = vI := ⟨_, rfl⟩
      have hvI0 : 0 ≤ vI ∧ vI < 18446744073709551616 := by omega
      have HVI := Lib.hid hvI
      rw [hvI] at HS2 HS3 HSK ⊢
      clear hvI hvlt
      by_cases hlv : (L : Int) < vI
      · have HE : Hid (y' = Tot) := by
          show y' = Tot
          rw [← HT.out, HS2.out hlv]
          omega
        clear HT HS2 HS3 HSK
        go_wp2_with fail
        refine C3.out.mono ?_
        rintro e W4 ⟨rfl, n4, rfl⟩
        have HC4 := Lib.hid (HC3.out.next ((Mods.refl (Is p) _).drewN n4) (HC3.out.ce.mods (S := No) ((Mods.refl _ _).drewN n4) fun _ h => h.elim))
        clear C3 HC3
        go_wp2
        refine bodyPost_ret (results_none rfl _ _ _) rfl ?_
        exact ⟨rfl, HFIN.out _ _ _ HC4.out HE.out⟩
      · replace HS3 := Lib.hid (HS3.out (by omega))
        have hvm : vI ≤ 1000000 := by omega
        have hvL : vI ≤ (L : Int) := by omega
        clear HS2
        go_wp2_with fail
        refine C3.out.mono ?_
        rintro e W4 ⟨rfl, n4, rfl⟩
        have HC4 := Lib.hid (HC3.out.next ((Mods.refl (Is p) _).drewN n4) (HC3.out.ce.mods (S := No) ((Mods.refl _ _).drewN n4) fun _ h => h.elim))
        clear C3 HC3
        generalize W3.drewN n4 = W4 at *
        have C4 := Lib.hid (daddY_any HC4.out.bx ⟨hy', by have := HT.out; omega⟩ ⟨hvI0.1, by omega⟩)
        have HT2 : Hid ((y' + vI) + (secT (ids20.drop (m + 1)) ⟨t2.rest.drop v, t2.err⟩ : Nat) = Tot) := by
          show _ = Tot
          rw [← HT.out, HS3.out, ← HVI.out]
          omega
        clear HT HS3
        go_wp2_with fail
        refine C4.out.mono ?_
        rintro e W5 ⟨rfl, hm, hr⟩
        have HC5 : Hid (KC W1 w.heap.size p l A' c' t2 q (COS b0 i0 p0 (y' + vI)) W5) := HC4.out.upd hm.r2 (HC4.out.ce.mods hm fun k hk => by unfold Is at hk; omega) hr
        clear hm hr C4 HC4
        have C5 := Lib.hid (HSK.out W5 HC5.out.ce hvL)
        clear HSK
        go_wp2_with fail
        refine C5.out.mono ?_
        rintro e W6 ⟨v9, rfl, hm, hc⟩
        have HC6 := Lib.hid (HC5.out.next hm hc)
        clear hm hc C5 HC5
        go_wp2
        go_roundg gk
        case measure => omega
        case rel => exact ⟨m + 1, _, y' + vI, by omega, rfl, by omega, HT2.out, HC6.out⟩

end Go.Proofs.YtkapmfopfddmbaaGreat
