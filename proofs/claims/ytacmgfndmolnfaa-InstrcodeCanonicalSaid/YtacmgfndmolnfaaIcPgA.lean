/-
  The program of layer 17: a cursor that holds an input; a field (next), the first byte, get.
-/
import Derived.Test.YtacmgfndmolnfaaIcTerm
import Derived.Test.YtacmgfndmolnfaaIcMach
import Derived.Test.YtacmgfndmolnfaaCurOps
namespace Go.Proofs.Ytacmgfndmolnfaa
open Go.RowKit
set_option linter.unusedVariables false
set_option linter.unusedSimpArgs false

/-- A cursor that holds the input t. -/
def CE (lo p : Nat) (l : List Nat) (A : Option Addr) (c : Nat) (t : Ip) (w : World) : Prop := ∃ i, Cur w lo p l i t.err A c ∧ (t.err = 0 → l.drop i = t.rest)
section
variable {w w' : World} {lo p : Nat} {l : List Nat} {A : Option Addr} {c : Nat} {t : Ip} {S : Nat → Prop}
theorem CE.mods (h : CE lo p l A c t w) (hm : Mods S w w') (hp : ∀ k, S k → k < lo ∨ p < k) : CE lo p l A c t w' := let ⟨i, hc, hr⟩ := h; ⟨i, hc.mods hm hp, hr⟩
theorem CE.alloc (h : CE lo p l A c t w) (o : Obj) : CE lo p l A c t (w.alloc o) := let ⟨i, hc, hr⟩ := h; ⟨i, hc.alloc o, hr⟩
theorem CE.lt (h : CE lo p l A c t w) : p < w.heap.size := let ⟨i, hc, hr⟩ := h; hc.row.lt
theorem CE.byt (h : CE lo p l A c t w) (h0 : t.err = 0) : Byt t.rest := by
  obtain ⟨i, hc, hr⟩ := h
  rw [← hr h0]
  exact hc.rest
end

/-- What Uint leaves of an input, and what it returns. -/
def rawT (t : Ip) : Ip := if t.err ≠ 0 then t else if (getS t.rest).2.2 ≠ 0 then ⟨[], ((getS t.rest).2.2 : Int)⟩ else ⟨t.rest.drop (getS t.rest).2.1, 0⟩
def rawV (t : Ip) : Nat := if (rawT t).err = 0 then (getS t.rest).1 else 0
/-- The signed value of an unsigned one. -/
def sg (v : Nat) : Int := if v < 9223372036854775808 then (v : Int) else (v : Int) - 18446744073709551616
def failT (x : Int) (t : Ip) : Ip := if t.err = 0 then ⟨[], x⟩ else t

theorem rawT_err {t : Ip} (h : (rawT t).err = 0) : t.err = 0 ∧ (getS t.rest).2.2 = 0 := by
  unfold rawT at h
  by_cases h0 : t.err ≠ 0
  · rw [if_pos h0] at h; exact absurd h h0
  · rw [if_neg h0] at h
    by_cases h1 : (getS t.rest).2.2 ≠ 0
    · rw [if_pos h1] at h; simp only at h; omega
    · exact ⟨by omega, by omega⟩
theorem rawV_lt {t : Ip} (hb : t.err = 0 → Byt t.rest) : rawV t < 18446744073709551616 := by
  unfold rawV
  by_cases h : (rawT t).err = 0
  · rw [if_pos h]
    obtain ⟨h0, h1⟩ := rawT_err h
    have hg : getS t.rest = ((getS t.rest).1, (getS t.rest).2.1, 0) := by rw [← h1]
    exact getS_lt (hb h0) hg
  · rw [if_neg h]; decide
theorem sg_wrap {v : Nat} (h : v < 18446744073709551616) : wrap64 (v : Int) = sg v := by
  unfold sg wrap64
  split <;> omega
theorem sg_in {v : Nat} (h : v < 18446744073709551616) : -9223372036854775808 ≤ sg v ∧ sg v ≤ 9223372036854775807 := by
  unfold sg
  split <;> omega

section
variable {w : World} {lo p : Nat} {l : List Nat} {A : Option Addr} {c : Nat} {t : Ip}
theorem uint_ce (h : CE lo p l A c t w) :
    Calls Try.prog 72 #[.pointer (some ⟨p, 0, none⟩), .int .u64 18446744073709551615] w fun e w' => e = .returned (.int .u64 (rawV t)) ∧ Mods (Is p) w w' ∧ CE lo p l A c (rawT t) w' := by
  obtain ⟨i, hc, hr⟩ := h
  have hu : uintS 18446744073709551615 (l.drop i) = getS (l.drop i) := by
    unfold uintS
    rw [if_neg]
    rintro ⟨h1, h2⟩
    have hg : getS (l.drop i) = ((getS (l.drop i)).1, (getS (l.drop i)).2.1, 0) := by rw [← h1]
    have := getS_lt hc.rest hg
    omega
  refine (uint_any hc 18446744073709551615 (by decide)).mono ?_
  rw [hu]
  rintro e w' ⟨rfl, hm, hc'⟩
  by_cases h0 : t.err = 0
  · have hr0 := hr h0
    rw [hr0] at hc' ⊢
    by_cases h1 : (getS t.rest).2.2 = 0
    · have hT : rawT t = ⟨t.rest.drop (getS t.rest).2.1, 0⟩ := by unfold rawT; rw [if_neg (by omega), if_neg (by omega)]
      have hV : rawV t = (getS t.rest).1 := by unfold rawV; rw [hT, if_pos rfl]
      refine ⟨by rw [hV, stepV, if_pos ⟨h0, h1⟩], hm, ⟨i + (getS t.rest).2.1, ?_, fun _ => ?_⟩⟩
      · rw [hT]
        rw [stepI, if_pos ⟨h0, h1⟩, stepE, if_pos h0, h1] at hc'
        exact hc'
      · rw [hT, ← List.drop_drop, hr0]
    · have hT : rawT t = ⟨[], ((getS t.rest).2.2 : Int)⟩ := by unfold rawT; rw [if_neg (by omega), if_pos h1]
      have hV : rawV t = 0 := by unfold rawV; rw [hT, if_neg (by simp only; omega)]
      refine ⟨by rw [hV, stepV, if_neg fun h => h1 h.2], hm, ⟨i, ?_, fun h => absurd h (by rw [hT]; simp only; omega)⟩⟩
      rw [hT]
      rw [stepI, if_neg fun h => h1 h.2, stepE, if_pos h0] at hc'
      exact hc'
  · have hT : rawT t = t := by unfold rawT; rw [if_pos h0]
    have hV : rawV t = 0 := by unfold rawV; rw [hT, if_neg h0]
    refine ⟨by rw [hV, stepV, if_neg fun h => h0 h.1], hm, ⟨i, ?_, fun h => absurd h (by rw [hT]; exact h0)⟩⟩
    rw [hT]
    rw [stepI, if_neg fun h => h0 h.1, stepE, if_neg h0] at hc'
    exact hc'
theorem fail_ce (h : CE lo p l A c t w) (x : Int) (hx : x ≠ 0) :
    Calls Try.prog 34 #[.pointer (some ⟨p, 0, none⟩), .int .i64 x] w fun e w' => e = .returned (.tuple #[]) ∧ Mods (Is p) w w' ∧ CE lo p l A c (failT x t) w' := by
  obtain ⟨i, hc, hr⟩ := h
  refine (fail_any hc x).mono ?_
  rintro e w' ⟨rfl, hm, hc'⟩
  by_cases h0 : t.err = 0
  · have hT : failT x t = ⟨[], x⟩ := if_pos h0
    rw [hT]
    refine ⟨rfl, hm, ⟨i, ?_, fun h => absurd h hx⟩⟩
    rw [failS, if_pos h0] at hc'
    exact hc'
  · have hT : failT x t = t := if_neg h0
    rw [hT]
    refine ⟨rfl, hm, ⟨i, ?_, fun h => absurd h h0⟩⟩
    rw [failS, if_neg h0] at hc'
    exact hc'
end

/-- What next returns and leaves, for any question that a number must answer. -/
def nxt (val : Int → Bool) (why : Int) (t : Ip) : Int × Ip := if val (sg (rawV t)) = true then (sg (rawV t), rawT t) else (0, failT why (rawT t))

set_option maxRecDepth 100000 in
set_option maxHeartbeats 1000000 in
theorem next_any {w : World} {lo p : Nat} {l : List Nat} {A : Option Addr} {c : Nat} {t : Ip} (h : CE lo p l A c t w) (why : Int) (hwhy : why ≠ 0) (K : FuncId) (caps : Array Value) (hK : ∀ args W, (callFunc K args).run Try.prog W = .ok (.enter K args) W) (val : Int → Bool)
    (HV : Hid (∀ v W, -9223372036854775808 ≤ v ∧ v ≤ 9223372036854775807 → Mods (Is p) w W → Calls Try.prog K (#[.int .i64 v] ++ caps) W fun e w' => e = .returned (.bool (val v)) ∧ W = w')) :
    Calls Try.prog 45 #[.agg #[.func (.func 72) #[.pointer (some ⟨p, 0, none⟩)] #[], .func (.func 34) #[.pointer (some ⟨p, 0, none⟩)] #[], .func (.func K) #[] caps, .int .i64 why]] w
      fun e w' => e = .returned (.int .i64 (nxt val why t).1) ∧ Mods (Is p) w w' ∧ CE lo p l A c (nxt val why t).2 w' := by
  have hlt := h.lt
  have hne : p ≠ w.heap.size := by omega
  have hv := rawV_lt h.byt
  have HS := Lib.hid (sg_wrap hv)
  have HI := Lib.hid (sg_in hv)
  have HR := Lib.hid (Row.new w 84 #[.func (.func 72) #[.pointer (some ⟨p, 0, none⟩)] #[], .func (.func 34) #[.pointer (some ⟨p, 0, none⟩)] #[], .func (.func K) #[] caps, .int .i64 why])
  have HM := Lib.hid ((Mods.refl (Is p) w).alloc (.cells #[.func (.func 72) #[.pointer (some ⟨p, 0, none⟩)] #[], .func (.func 34) #[.pointer (some ⟨p, 0, none⟩)] #[], .func (.func K) #[] caps, .int .i64 why] 84))
  have HC := Lib.hid (uint_ce (h.alloc (.cells #[.func (.func 72) #[.pointer (some ⟨p, 0, none⟩)] #[], .func (.func 34) #[.pointer (some ⟨p, 0, none⟩)] #[], .func (.func K) #[] caps, .int .i64 why] 84)))
  have HN := Lib.hid (show nxt val why t = if val (sg (rawV t)) = true then (sg (rawV t), rawT t) else (0, failT why (rawT t)) from rfl)
  clear h
  go_enter Try.func45, Try.ntmps45
  go_upto_region 1 with fail
  generalize (w.alloc (.cells #[.func (.func 72) #[.pointer (some ⟨p, 0, none⟩)] #[], .func (.func 34) #[.pointer (some ⟨p, 0, none⟩)] #[], .func (.func K) #[] caps, .int .i64 why] 84)) = W1 at *
  generalize w.heap.size = q at *
  have c0 := HR.out.cell 0
  simp only [List.getElem?_toArray, List.getElem?_cons_zero, List.getElem?_cons_succ] at c0
  go_wp2_with fail
  refine HC.out.mono ?_
  rintro e W2 ⟨rfl, hm, hc⟩
  have HR2 := Lib.hid (HR.out.mods hm fun hh => hne hh.symm)
  have HM2 := Lib.hid (HM.out.trans hm)
  have HC2 := Lib.hid hc
  clear hm hc c0 HC HR HM
  have c2 := HR2.out.cell 2
  have c1 := HR2.out.cell 1
  have c3 := HR2.out.cell 3
  simp only [List.getElem?_toArray, List.getElem?_cons_zero, List.getElem?_cons_succ] at c1 c2 c3
  have CV := Lib.hid (HV.out (sg (rawV t)) W2 HI.out HM2.out)
  cases hval : val (sg (rawV t)) with
  | false =>
    have HN2 : Hid (nxt val why t = (0, failT why (rawT t))) := by rw [Hid, HN.out, hval]; rfl
    have CF := Lib.hid (fail_ce HC2.out why hwhy)
    rw [hval] at CV
    go_wp2_with fail
    simp only [HS.out]
    refine CV.out.mono ?_
    rintro e W3 ⟨rfl, rfl⟩
    go_wp2_with fail
    refine CF.out.mono ?_
    rintro e W3 ⟨rfl, hm, hc⟩
    have HM3 := Lib.hid (HM2.out.trans hm)
    have HC3 := Lib.hid hc
    clear hm hc c1 c2 c3
    go_wp2
    go_ret
    exact ⟨by rw [HN2.out]; rfl, HM3.out, by rw [HN2.out]; exact HC3.out⟩
  | true =>
    have HN2 : Hid (nxt val why t = (sg (rawV t), rawT t)) := by rw [Hid, HN.out, hval]; rfl
    rw [hval] at CV
    go_wp2_with fail
    simp only [HS.out]
    refine CV.out.mono ?_
    rintro e W3 ⟨rfl, rfl⟩
    go_wp2
    go_ret
    exact ⟨by rw [HN2.out]; rfl, HM2.out, by rw [HN2.out]; exact HC2.out⟩

theorem nxt_err {val : Int → Bool} {why : Int} {t : Ip} (h0 : t.err ≠ 0) : nxt val why t = (0, t) := by
  have hT : rawT t = t := if_pos h0
  have hV : rawV t = 0 := by unfold rawV; rw [hT]; exact if_neg h0
  have hf : failT why t = t := if_neg h0
  unfold nxt
  rw [hT, hV, hf]
  split <;> rfl
theorem nxt_bad {val : Int → Bool} {why : Int} {t : Ip} (h0 : t.err = 0) (h2 : (getS t.rest).2.2 ≠ 0) : nxt val why t = (0, ⟨[], ((getS t.rest).2.2 : Int)⟩) := by
  have hT : rawT t = ⟨[], ((getS t.rest).2.2 : Int)⟩ := (if_neg fun hh => hh h0).trans (if_pos h2)
  have hV : rawV t = 0 := by unfold rawV; rw [hT]; exact if_neg (by dsimp only; omega)
  have hf : failT why ⟨[], ((getS t.rest).2.2 : Int)⟩ = ⟨[], ((getS t.rest).2.2 : Int)⟩ := if_neg (by dsimp only; omega)
  unfold nxt
  rw [hT, hV, hf]
  split <;> rfl
theorem nxt_good {val : Int → Bool} {why : Int} {t : Ip} (h0 : t.err = 0) (h2 : (getS t.rest).2.2 = 0) : nxt val why t = if val (sg (getS t.rest).1) = true then (sg (getS t.rest).1, ⟨t.rest.drop (getS t.rest).2.1, 0⟩) else (0, ⟨[], why⟩) := by
  have hT : rawT t = ⟨t.rest.drop (getS t.rest).2.1, 0⟩ := (if_neg fun hh => hh h0).trans (if_neg fun hh => hh h2)
  have hV : rawV t = (getS t.rest).1 := by unfold rawV; rw [hT]; exact if_pos rfl
  unfold nxt
  rw [hT, hV]
  rfl
theorem numE_bad {bd why : Int} {t : Ip} (h0 : t.err = 0) (h2 : (getS t.rest).2.2 ≠ 0) : numE bd why t = (0, ⟨[], ((getS t.rest).2.2 : Int)⟩) := (if_neg fun hh => hh h0).trans (if_pos h2)
theorem numE_good {bd why : Int} {t : Ip} (h0 : t.err = 0) (h2 : (getS t.rest).2.2 = 0) : numE bd why t = if bd ≤ ((getS t.rest).1 : Int) then (0, ⟨[], why⟩) else (((getS t.rest).1 : Int), ⟨t.rest.drop (getS t.rest).2.1, 0⟩) := (if_neg fun hh => hh h0).trans (if_neg fun hh => hh h2)
theorem getS_lt2 {t : Ip} (hb : t.err = 0 → Byt t.rest) (h0 : t.err = 0) (h2 : (getS t.rest).2.2 = 0) : (getS t.rest).1 < 18446744073709551616 := by
  have hg : getS t.rest = ((getS t.rest).1, (getS t.rest).2.1, 0) := by rw [← h2]
  exact getS_lt (hb h0) hg
theorem nxt_num {bd why : Int} {t : Ip} (hb : t.err = 0 → Byt t.rest) (h1 : bd ≤ 9223372036854775808) : nxt (fun v => decide (0 ≤ v ∧ v < bd)) why t = numE bd why t := by
  by_cases h0 : t.err = 0
  · by_cases h2 : (getS t.rest).2.2 = 0
    · have hv := getS_lt2 hb h0 h2
      rw [nxt_good h0 h2, numE_good h0 h2]
      generalize (getS t.rest).1 = v at *
      unfold sg
      by_cases h3 : bd ≤ (v : Int)
      · rw [if_pos h3]
        refine if_neg fun h => ?_
        have := of_decide_eq_true h
        split at this <;> omega
      · rw [if_neg h3]
        have hs : (if v < 9223372036854775808 then (v : Int) else (v : Int) - 18446744073709551616) = v := if_pos (by omega)
        rw [hs]
        exact if_pos (decide_eq_true ⟨by omega, by omega⟩)
    · rw [nxt_bad h0 h2, numE_bad h0 h2]
  · rw [nxt_err h0, numE_err h0]
theorem nxt_loc {r n : Int} {t : Ip} (hb : t.err = 0 → Byt t.rest) (hr : r ≤ 65535) (hn : n ≤ 65535) : nxt (fun v => locS v r n) 10 t = locE r n t := by
  by_cases h0 : t.err = 0
  · by_cases h2 : (getS t.rest).2.2 = 0
    · have hv := getS_lt2 hb h0 h2
      rw [nxt_good h0 h2]
      unfold locE
      rw [numE_good h0 h2]
      generalize (getS t.rest).1 = v at *
      by_cases h3 : (4611686018427387904 : Int) ≤ (v : Int)
      · have hls : locS (sg v) r n = false := by
          unfold sg locS
          split
          · rw [if_neg (by omega)]
            split
            · exact decide_eq_false (by omega)
            · exact decide_eq_false (by omega)
          · rw [if_pos (by omega)]
        rw [if_pos h3, if_neg (c := (0, (⟨[], 10⟩ : Ip)).2.err = 0 ∧ locS (0, (⟨[], 10⟩ : Ip)).1 r n = false) fun h => absurd h.1 (by decide)]
        exact if_neg fun h => by have h' : locS (sg v) r n = true := h; rw [hls] at h'; cases h'
      · have hs : sg v = (v : Int) := if_pos (by omega)
        rw [hs, if_neg h3]
        dsimp only
        cases hl : locS (v : Int) r n
        · rfl
        · rfl
    · rw [nxt_bad h0 h2]
      unfold locE
      rw [numE_bad h0 h2]
      exact (if_neg fun h => by have := h.1; dsimp only at this; omega).symm
  · rw [nxt_err h0, locE_err h0]

/-- What Byte leaves of an input, and what it returns. -/
def byT (t : Ip) : Ip := if t.err ≠ 0 then t else match t.rest with
  | [] => ⟨[], 1⟩
  | _ :: r => ⟨r, 0⟩
def byV (t : Ip) : Nat := if t.err ≠ 0 then 0 else match t.rest with
  | [] => 0
  | c :: _ => c
theorem byV_lt {t : Ip} (hb : t.err = 0 → Byt t.rest) : byV t < 256 := by
  obtain ⟨l, e⟩ := t
  unfold byV
  by_cases h0 : e = 0
  · rw [if_neg (fun hh => hh h0)]
    rcases l with _ | ⟨x, r⟩
    · exact Nat.zero_lt_succ _
    · exact hb h0 x (by simp)
  · rw [if_pos h0]; exact Nat.zero_lt_succ _
section
variable {w : World} {lo p : Nat} {l : List Nat} {A : Option Addr} {c : Nat} {t : Ip}
theorem byte_ce (h : CE lo p l A c t w) :
    Calls Try.prog 33 #[.pointer (some ⟨p, 0, none⟩)] w fun e w' => e = .returned (.int .u8 (byV t)) ∧ Mods (Is p) w w' ∧ CE lo p l A c (byT t) w' := by
  obtain ⟨i, hc, hr⟩ := h
  refine (byte_any hc).mono ?_
  rintro e w' ⟨rfl, hm, hc'⟩
  obtain ⟨u, er⟩ := t
  dsimp only at *
  by_cases h0 : er = 0
  · have hr0 := hr h0
    rw [hr0] at hc' ⊢
    rcases u with _ | ⟨x, r⟩
    · have hT : byT ⟨[], er⟩ = ⟨[], 1⟩ := if_neg (fun hh => hh h0)
      have hV : byV ⟨[], er⟩ = 0 := if_neg (fun hh => hh h0)
      refine ⟨by rw [hV, stepV, if_neg (fun h => by have := h.2; simp [byteS] at this)], hm, ⟨i, ?_, fun h => absurd h (by rw [hT]; decide)⟩⟩
      rw [hT]
      rw [stepI, if_neg (fun h => by have := h.2; simp [byteS] at this), stepE, if_pos h0] at hc'
      exact hc'
    · have hT : byT ⟨x :: r, er⟩ = ⟨r, 0⟩ := if_neg (fun hh => hh h0)
      have hV : byV ⟨x :: r, er⟩ = x := if_neg (fun hh => hh h0)
      refine ⟨by rw [hV, stepV, if_pos ⟨h0, rfl⟩]; rfl, hm, ⟨i + 1, ?_, fun _ => ?_⟩⟩
      · rw [hT]
        rw [stepI, if_pos ⟨h0, rfl⟩, stepE, if_pos h0] at hc'
        exact hc'
      · rw [hT, ← List.drop_drop, hr0]
        rfl
  · have hT : byT ⟨u, er⟩ = ⟨u, er⟩ := if_pos h0
    have hV : byV ⟨u, er⟩ = 0 := if_pos h0
    refine ⟨by rw [hV, stepV, if_neg fun h => h0 h.1], hm, ⟨i, ?_, fun h => absurd h (by rw [hT]; exact h0)⟩⟩
    rw [hT]
    rw [stepI, if_neg fun h => h0 h.1, stepE, if_neg h0] at hc'
    exact hc'
theorem int_ce (h : CE lo p l A c t w) :
    Calls Try.prog 69 #[.pointer (some ⟨p, 0, none⟩)] w fun e w' => e = .returned (.int .i64 (immE true t).1) ∧ Mods (Is p) w w' ∧ CE lo p l A c (immE true t).2 w' := by
  obtain ⟨i, hc, hr⟩ := h
  have hg : (getS (l.drop i)).1 ≤ 18446744073709551615 := by
    rcases getS_kinds (l.drop i) with ⟨x, n, h⟩ | h | h
    · have := getS_lt hc.rest h
      rw [h]; dsimp only; omega
    · rw [h]; decide
    · rw [h]; decide
  refine (int_any hc hg).mono ?_
  rintro e w' ⟨rfl, hm, hc'⟩
  by_cases h0 : t.err = 0
  · have hr0 := hr h0
    rw [hr0] at hc' ⊢
    by_cases h1 : (getS t.rest).2.2 = 0
    · have hT : immE true t = (uz ((getS t.rest).1 : Int), ⟨t.rest.drop (getS t.rest).2.1, 0⟩) := by unfold immE; rw [if_pos ⟨rfl, h0⟩, if_neg (fun hh => hh h1)]
      refine ⟨by rw [hT, stepV, if_pos ⟨h0, h1⟩], hm, ⟨i + (getS t.rest).2.1, ?_, fun _ => ?_⟩⟩
      · rw [hT]
        rw [stepI, if_pos ⟨h0, h1⟩, stepE, if_pos h0, h1] at hc'
        exact hc'
      · rw [hT, ← List.drop_drop, hr0]
    · have hT : immE true t = (0, ⟨[], ((getS t.rest).2.2 : Int)⟩) := by unfold immE; rw [if_pos ⟨rfl, h0⟩, if_pos h1]
      refine ⟨by rw [hT, stepV, if_neg fun h => h1 h.2]; rfl, hm, ⟨i, ?_, fun h => absurd h (by rw [hT]; simp only; omega)⟩⟩
      rw [hT]
      rw [stepI, if_neg fun h => h1 h.2, stepE, if_pos h0] at hc'
      exact hc'
  · have hT : immE true t = (0, t) := immE_err h0
    refine ⟨by rw [hT, stepV, if_neg fun h => h0 h.1]; rfl, hm, ⟨i, ?_, fun h => absurd h (by rw [hT]; exact h0)⟩⟩
    rw [hT]
    rw [stepI, if_neg fun h => h0 h.1, stepE, if_neg h0] at hc'
    exact hc'
end

def frs (val : Int → Bool) (why : Int) (t : Ip) : Int × Ip := if val (byV t) = true then ((byV t : Int), byT t) else (0, failT why (byT t))
theorem frs_first {most nt why : Int} {val : Int → Bool} {t : Ip} (hb : t.err = 0 → Byt t.rest) (hval : ∀ v : Int, 0 ≤ v → v < 256 → val v = !decide (v < 1 ∨ most < v ∨ v = nt)) : frs val why t = firstE most nt why t := by
  have v0 : val 0 = false := by rw [hval 0 (by decide) (by decide), decide_eq_true (.inl (by decide))]; rfl
  obtain ⟨l, e⟩ := t
  dsimp only at hb
  by_cases h0 : e = 0
  · unfold frs
    rcases l with _ | ⟨x, r⟩
    · have hT : byT ⟨[], e⟩ = ⟨[], 1⟩ := if_neg (fun hh => hh h0)
      have hV : byV ⟨[], e⟩ = 0 := if_neg (fun hh => hh h0)
      have hF : firstE most nt why ⟨[], e⟩ = (0, ⟨[], 1⟩) := if_neg fun hh => hh h0
      rw [hT, hV, hF]
      exact if_neg (by rw [show ((0 : Nat) : Int) = 0 from rfl, v0]; decide)
    · have hT : byT ⟨x :: r, e⟩ = ⟨r, 0⟩ := if_neg (fun hh => hh h0)
      have hV : byV ⟨x :: r, e⟩ = x := if_neg (fun hh => hh h0)
      have hF : firstE most nt why ⟨x :: r, e⟩ = if (x : Int) < 1 ∨ most < (x : Int) ∨ (x : Int) = nt then (0, ⟨[], why⟩) else ((x : Int), ⟨r, 0⟩) := if_neg fun hh => hh h0
      have hx := hb h0 x (by simp)
      rw [hT, hV, hF, hval x (by omega) (by omega)]
      by_cases h1 : (x : Int) < 1 ∨ most < (x : Int) ∨ (x : Int) = nt
      · rw [decide_eq_true h1, if_pos h1]
        exact if_neg (by decide)
      · rw [decide_eq_false h1, if_neg h1]
        exact if_pos (by decide)
  · have hT : byT ⟨l, e⟩ = ⟨l, e⟩ := if_pos h0
    have hV : byV ⟨l, e⟩ = 0 := if_pos h0
    unfold frs firstE
    rw [hT, hV, show failT why ⟨l, e⟩ = ⟨l, e⟩ from if_neg h0]
    exact (if_neg (by rw [show ((0 : Nat) : Int) = 0 from rfl, v0]; decide)).trans (if_pos h0).symm

set_option maxRecDepth 100000 in
set_option maxHeartbeats 1000000 in
theorem getfirst_any {w : World} {lo p : Nat} {l : List Nat} {A : Option Addr} {c : Nat} {t : Ip} (h : CE lo p l A c t w) (why : Int) (hwhy : why ≠ 0) (K : FuncId) (hK : ∀ args W, (callFunc K args).run Try.prog W = .ok (.enter K args) W) (val : Int → Bool)
    (HV : Hid (∀ v W, 0 ≤ v ∧ v < 256 → Calls Try.prog K #[.int .i64 v] W fun e w' => e = .returned (.bool (val v)) ∧ Below W.heap.size W w')) :
    Calls Try.prog 32 #[.func (.func 33) #[.pointer (some ⟨p, 0, none⟩)] #[], .func (.func 34) #[.pointer (some ⟨p, 0, none⟩)] #[], .func (.func K) #[] #[], .int .i64 why] w
      fun e w' => e = .returned (.int .i64 (frs val why t).1) ∧ Mods (Is p) w w' ∧ CE lo p l A c (frs val why t).2 w' := by
  have hv := byV_lt h.byt
  have HC := Lib.hid (byte_ce h)
  have HN := Lib.hid (show frs val why t = if val (byV t) = true then ((byV t : Int), byT t) else (0, failT why (byT t)) from rfl)
  clear h
  generalize byV t = b at *
  go_enter Try.func32, Try.ntmps32
  go_wp2_with fail
  refine HC.out.mono ?_
  rintro e W2 ⟨rfl, hm, hc⟩
  have HM2 := Lib.hid hm
  have HC2 := Lib.hid hc
  clear hm hc HC
  have CV := Lib.hid (HV.out (b : Int) W2 ⟨by omega, by omega⟩)
  cases hval : val (b : Int) with
  | false =>
    have HN2 : Hid (frs val why t = (0, failT why (byT t))) := by rw [Hid, HN.out, hval]; rfl
    rw [hval] at CV
    go_wp2_with fail
    refine CV.out.mono ?_
    rintro e W3 ⟨rfl, hb⟩
    have HM3 := Lib.hid (HM2.out.trans (Mods.of_below hb))
    have CF := Lib.hid (fail_ce (HC2.out.mods (S := No) (Mods.of_below hb) fun _ hk => hk.elim) why hwhy)
    clear hb
    go_wp2_with fail
    refine CF.out.mono ?_
    rintro e W4 ⟨rfl, hm, hc⟩
    have HM4 := Lib.hid (HM3.out.trans hm)
    have HC4 := Lib.hid hc
    clear hm hc
    go_wp2
    go_ret
    exact ⟨by rw [HN2.out]; rfl, HM4.out, by rw [HN2.out]; exact HC4.out⟩
  | true =>
    have HN2 : Hid (frs val why t = ((b : Int), byT t)) := by rw [Hid, HN.out, hval]; rfl
    rw [hval] at CV
    go_wp2_with fail
    refine CV.out.mono ?_
    rintro e W3 ⟨rfl, hb⟩
    have HM3 := Lib.hid (HM2.out.trans (Mods.of_below hb))
    have HC3 := Lib.hid (HC2.out.mods (S := No) (Mods.of_below hb) fun _ hk => hk.elim)
    clear hb
    go_wp2
    go_ret
    exact ⟨by rw [HN2.out]; rfl, HM3.out, by rw [HN2.out]; exact HC3.out⟩

set_option maxRecDepth 100000 in
set_option maxHeartbeats 1000000 in
theorem geti_any {v : Value} {W : World} {v1 : Int} {R : World → Prop} (b : Bool)
    (HC : Hid (b = true → Calls Try.prog 45 #[v] W fun e w' => e = .returned (.int .i64 v1) ∧ R w')) (HZ : b = false → v1 = 0 ∧ R W) :
    Calls Try.prog 44 #[.bool b, .func (.func 45) #[v] #[]] W fun e w' => e = .returned (.int .i64 v1) ∧ R w' := by
  cases b
  · obtain ⟨rfl, hr⟩ := HZ rfl
    have HR := Lib.hid hr
    clear hr HZ
    go_enter Try.func44, Try.ntmps44
    go_wp2
    go_ret
    exact ⟨rfl, HR.out⟩
  · have HC2 := Lib.hid (HC.out rfl)
    clear HZ HC
    go_enter Try.func44, Try.ntmps44
    go_wp2_with fail
    refine HC2.out.mono ?_
    rintro e W2 ⟨rfl, hr⟩
    have HR := Lib.hid hr
    clear hr
    go_wp2
    go_ret
    exact ⟨rfl, HR.out⟩

set_option maxRecDepth 100000 in
set_option maxHeartbeats 1000000 in
theorem getl_any {p : Nat} {W : World} {v1 : Int} {R : World → Prop} (b : Bool)
    (HC : Hid (b = true → Calls Try.prog 69 #[.pointer (some ⟨p, 0, none⟩)] W fun e w' => e = .returned (.int .i64 v1) ∧ R w')) (HZ : b = false → v1 = 0 ∧ R W) :
    Calls Try.prog 68 #[.bool b, .func (.func 69) #[.pointer (some ⟨p, 0, none⟩)] #[]] W fun e w' => e = .returned (.int .i64 v1) ∧ R w' := by
  cases b
  · obtain ⟨rfl, hr⟩ := HZ rfl
    have HR := Lib.hid hr
    clear hr HZ
    go_enter Try.func68, Try.ntmps68
    go_wp2
    go_ret
    exact ⟨rfl, HR.out⟩
  · have HC2 := Lib.hid (HC.out rfl)
    clear HZ HC
    go_enter Try.func68, Try.ntmps68
    go_wp2_with fail
    refine HC2.out.mono ?_
    rintro e W2 ⟨rfl, hr⟩
    have HR := Lib.hid hr
    clear hr
    go_wp2
    go_ret
    exact ⟨rfl, HR.out⟩

end Go.Proofs.Ytacmgfndmolnfaa
