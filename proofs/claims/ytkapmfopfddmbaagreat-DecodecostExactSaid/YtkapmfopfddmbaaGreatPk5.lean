import Derived.Test.YtkapmfopfddmbaaGreatIcTerm
import Derived.Test.YtkapmfopfddmbaaGreatIcMach
import Derived.Test.YtkapmfopfddmbaaGreatCurOps
import Derived.Test.YtkapmfopfddmbaaGreatPk1
import Derived.Laws.EntriesVeiled
import Derived.Shelf.Abstract

/-
  The program of layer 17: a cursor that holds an input; a field (next), the first byte, get.
-/
namespace Go.Proofs.YtkapmfopfddmbaaGreat
open Go.RowKit
set_option linter.unusedVariables false
set_option linter.unusedSimpArgs false

/-- A cursor that holds the input t. -/
def CE (lo p : Nat) (l : List Nat) (A : Option Addr) (c : Nat) (t : Ip) (w : World) : Prop := ∃ i, Cur w lo p l i t.err A c ∧ (t.err = 0 → l.drop i = t.rest)

section
variable {w w' : World} {lo p : Nat} {l : List Nat} {A : Option Addr} {c : Nat} {t : Ip} {S : Nat → Prop}

theorem CE.mods (h : CE lo p l A c t w) (hm : Mods S w w') (hp : ∀ k, S k → k < lo ∨ p < k) : CE lo p l A c t w' := let ⟨i, hc, hr⟩ := h; ⟨i, hc.mods hm hp, hr⟩

theorem CE.alloc (h : CE lo p l A c t w) (o : Obj) : CE lo p l A c t (w.alloc o) := let ⟨i, hc, hr⟩ := h; ⟨i, hc.alloc o, hr⟩

theorem CE.lt (h : CE lo p l A c t w) : p < w.heap.size := let ⟨i, hc, hr⟩ := h; hc.row.lt

theorem CE.byt (h : CE lo p l A c t w) (h0 : t.err = 0) : Byt t.rest := by
  obtain ⟨i, hc, hr⟩ := h
  rw [← hr h0]
  exact hc.rest

end

/-- What Uint leaves of an input, and what it returns. -/
def rawT (t : Ip) : Ip := if t.err ≠ 0 then t else if (getS t.rest).2.2 ≠ 0 then ⟨[], ((getS t.rest).2.2 : Int)⟩ else ⟨t.rest.drop (getS t.rest).2.1, 0⟩

def rawV (t : Ip) : Nat := if (rawT t).err = 0 then (getS t.rest).1 else 0

/-- The signed value of an unsigned one. -/
def sg (v : Nat) : Int := if v < 9223372036854775808 then (v : Int) else (v : Int) - 18446744073709551616

def failT (x : Int) (t : Ip) : Ip := if t.err = 0 then ⟨[], x⟩ else t

theorem rawT_err {t : Ip} (h : (rawT t).err = 0) : t.err = 0 ∧ (getS t.rest).2.2 = 0 := by
  unfold rawT at h
  by_cases h0 : t.err ≠ 0
  · rw [if_pos h0] at h; exact absurd h h0
  · rw [if_neg h0] at h
    by_cases h1 : (getS t.rest).2.2 ≠ 0
    · rw [if_pos h1] at h; simp only at h; omega
    · exact ⟨by omega, by omega⟩

theorem rawV_lt {t : Ip} (hb : t.err = 0 → Byt t.rest) : rawV t < 18446744073709551616 := by
  unfold rawV
  by_cases h : (rawT t).err = 0
  · rw [if_pos h]
    obtain ⟨h0, h1⟩ := rawT_err h
    have hg : getS t.rest = ((getS t.rest).1, (getS t.rest).2.1, 0) := by rw [← h1]
    exact getS_lt (hb h0) hg
  · rw [if_neg h]; decide

theorem sg_wrap {v : Nat} (h : v < 18446744073709551616) : wrap64 (v : Int) = sg v := by
  unfold sg wrap64
  split <;> omega

theorem sg_in {v : Nat} (h : v < 18446744073709551616) : -9223372036854775808 ≤ sg v ∧ sg v ≤ 9223372036854775807 := by
  unfold sg
  split <;> omega

section
variable {w : World} {lo p : Nat} {l : List Nat} {A : Option Addr} {c : Nat} {t : Ip}

theorem uint_ce (h : CE lo p l A c t w) :
    Calls Tryz.prog 45 #[.pointer (some ⟨p, 0, none⟩), .int .u64 18446744073709551615] w fun e w' => e = .returned (.int .u64 (rawV t)) ∧ Mods (Is p) w w' ∧ CE lo p l A c (rawT t) w' := by
  obtain ⟨i, hc, hr⟩ := h
  have hu : uintS 18446744073709551615 (l.drop i) = getS (l.drop i) := by
    unfold uintS
    rw [if_neg]
    rintro ⟨h1, h2⟩
    have hg : getS (l.drop i) = ((getS (l.drop i)).1, (getS (l.drop i)).2.1, 0) := by rw [← h1]
    have := getS_lt hc.rest hg
    omega
  refine (uint_any hc 18446744073709551615 (by decide)).mono ?_
  rw [hu]
  rintro e w' ⟨rfl, hm, hc'⟩
  by_cases h0 : t.err = 0
  · have hr0 := hr h0
    rw [hr0] at hc' ⊢
    by_cases h1 : (getS t.rest).2.2 = 0
    · have hT : rawT t = ⟨t.rest.drop (getS t.rest).2.1, 0⟩ := by unfold rawT; rw [if_neg (by omega), if_neg (by omega)]
      have hV : rawV t = (getS t.rest).1 := by unfold rawV; rw [hT, if_pos rfl]
      refine ⟨by rw [hV, stepV, if_pos ⟨h0, h1⟩], hm, ⟨i + (getS t.rest).2.1, ?_, fun _ => ?_⟩⟩
      · rw [hT]
        rw [stepI, if_pos ⟨h0, h1⟩, stepE, if_pos h0, h1] at hc'
        exact hc'
      · rw [hT, ← List.drop_drop, hr0]
    · have hT : rawT t = ⟨[], ((getS t.rest).2.2 : Int)⟩ := by unfold rawT; rw [if_neg (by omega), if_pos h1]
      have hV : rawV t = 0 := by unfold rawV; rw [hT, if_neg (by simp only; omega)]
      refine ⟨by rw [hV, stepV, if_neg fun h => h1 h.2], hm, ⟨i, ?_, fun h => absurd h (by rw [hT]; simp only; omega)⟩⟩
      rw [hT]
      rw [stepI, if_neg fun h => h1 h.2, stepE, if_pos h0] at hc'
      exact hc'
  · have hT : rawT t = t := by unfold rawT; rw [if_pos h0]
    have hV : rawV t = 0 := by unfold rawV; rw [hT, if_neg h0]
    refine ⟨by rw [hV, stepV, if_neg fun h => h0 h.1], hm, ⟨i, ?_, fun h => absurd h (by rw [hT]; exact h0)⟩⟩
    rw [hT]
    rw [stepI, if_neg fun h => h0 h.1, stepE, if_neg h0] at hc'
    exact hc'

theorem fail_ce (h : CE lo p l A c t w) (x : Int) (hx : x ≠ 0) :
    Calls Tryz.prog 66 #[.pointer (some ⟨p, 0, none⟩), .int .i64 x] w fun e w' => e = .returned (.tuple #[]) ∧ Mods (Is p) w w' ∧ CE lo p l A c (failT x t) w' := by
  obtain ⟨i, hc, hr⟩ := h
  refine (fail_any hc x).mono ?_
  rintro e w' ⟨rfl, hm, hc'⟩
  by_cases h0 : t.err = 0
  · have hT : failT x t = ⟨[], x⟩ := if_pos h0
    rw [hT]
    refine ⟨rfl, hm, ⟨i, ?_, fun h => absurd h hx⟩⟩
    rw [failS, if_pos h0] at hc'
    exact hc'
  · have hT : failT x t = t := if_neg h0
    rw [hT]
    refine ⟨rfl, hm, ⟨i, ?_, fun h => absurd h h0⟩⟩
    rw [failS, if_neg h0] at hc'
    exact hc'

end

/-- What next returns and leaves, for any question that a number must answer. -/
def nxt (val : Int → Bool) (why : Int) (t : Ip) : Int × Ip := if val (sg (rawV t)) = true then (sg (rawV t), rawT t) else (0, failT why (rawT t))

set_option maxRecDepth 100000 in
set_option maxHeartbeats 1000000 in
theorem next_any {w : World} {lo p : Nat} {l : List Nat} {A : Option Addr} {c : Nat} {t : Ip} (h : CE lo p l A c t w) (why : Int) (hwhy : why ≠ 0) (K : FuncId) (caps : Array Value) (hK : ∀ args W, (callFunc K args).run Tryz.prog W = .ok (.enter K args) W) (val : Int → Bool)
    (HV : Hid (∀ v W, -9223372036854775808 ≤ v ∧ v ≤ 9223372036854775807 → Mods (Is p) w W → Calls Tryz.prog K (#[.int .i64 v] ++ caps) W fun e w' => e = .returned (.bool (val v)) ∧ W = w')) :
    Calls Tryz.prog 93 #[.agg #[.func (.func 45) #[.pointer (some ⟨p, 0, none⟩)] #[], .func (.func 66) #[.pointer (some ⟨p, 0, none⟩)] #[], .func (.func K) #[] caps, .int .i64 why]] w
      fun e w' => e = .returned (.int .i64 (nxt val why t).1) ∧ Mods (Is p) w w' ∧ CE lo p l A c (nxt val why t).2 w' := by
  have hlt := h.lt
  have hne : p ≠ w.heap.size := by omega
  have hv := rawV_lt h.byt
  have HS := Lib.hid (sg_wrap hv)
  have HI := Lib.hid (sg_in hv)
  have HR := Lib.hid (Row.new w 133 #[.func (.func 45) #[.pointer (some ⟨p, 0, none⟩)] #[], .func (.func 66) #[.pointer (some ⟨p, 0, none⟩)] #[], .func (.func K) #[] caps, .int .i64 why])
  have HM := Lib.hid ((Mods.refl (Is p) w).alloc (.cells #[.func (.func 45) #[.pointer (some ⟨p, 0, none⟩)] #[], .func (.func 66) #[.pointer (some ⟨p, 0, none⟩)] #[], .func (.func K) #[] caps, .int .i64 why] 133))
  have HC := Lib.hid (uint_ce (h.alloc (.cells #[.func (.func 45) #[.pointer (some ⟨p, 0, none⟩)] #[], .func (.func 66) #[.pointer (some ⟨p, 0, none⟩)] #[], .func (.func K) #[] caps, .int .i64 why] 133)))
  have HN := Lib.hid (show nxt val why t = if val (sg (rawV t)) = true then (sg (rawV t), rawT t) else (0, failT why (rawT t)) from rfl)
  clear h
  go_enter Tryz.func93, Tryz.ntmps93
  go_upto_region 1 with fail
  generalize (w.alloc (.cells #[.func (.func 45) #[.pointer (some ⟨p, 0, none⟩)] #[], .func (.func 66) #[.pointer (some ⟨p, 0, none⟩)] #[], .func (.func K) #[] caps, .int .i64 why] 133)) = W1 at *
  generalize w.heap.size = q at *
  have c0 := HR.out.cell 0
  simp only [List.getElem?_toArray, List.getElem?_cons_zero, List.getElem?_cons_succ] at c0
  go_wp2_with fail
  refine HC.out.mono ?_
  rintro e W2 ⟨rfl, hm, hc⟩
  have HR2 := Lib.hid (HR.out.mods hm fun hh => hne hh.symm)
  have HM2 := Lib.hid (HM.out.trans hm)
  have HC2 := Lib.hid hc
  clear hm hc c0 HC HR HM
  have c2 := HR2.out.cell 2
  have c1 := HR2.out.cell 1
  have c3 := HR2.out.cell 3
  simp only [List.getElem?_toArray, List.getElem?_cons_zero, List.getElem?_cons_succ] at c1 c2 c3
  have CV := Lib.hid (HV.out (sg (rawV t)) W2 HI.out HM2.out)
  cases hval : val (sg (rawV t)) with
  | false =>
    have HN2 : Hid (nxt val why t = (0, failT why (rawT t))) := by rw [Hid, HN.out, hval]; rfl
    have CF := Lib.hid (fail_ce HC2.out why hwhy)
    rw [hval] at CV
    go_wp2_with fail
    simp only [HS.out]
    refine CV.out.mono ?_
    rintro e W3 ⟨rfl, rfl⟩
    go_wp2_with fail
    refine CF.out.mono ?_
    rintro e W3 ⟨rfl, hm, hc⟩
    have HM3 := Lib.hid (HM2.out.trans hm)
    have HC3 := Lib.hid hc
    clear hm hc c1 c2 c3
    go_wp2
    go_ret
    exact ⟨by rw [HN2.out]; rfl, HM3.out, by rw [HN2.out]; exact HC3.out⟩
  | true =>
    have HN2 : Hid (nxt val why t = (sg (rawV t), rawT t)) := by rw [Hid, HN.out, hval]; rfl
    rw [hval] at CV
    go_wp2_with fail
    simp only [HS.out]
    refine CV.out.mono ?_
    rintro e W3 ⟨rfl, rfl⟩
    go_wp2
    go_ret
    exact ⟨by rw [HN2.out]; rfl, HM2.out, by rw [HN2.out]; exact HC2.out⟩

theorem nxt_err {val : Int → Bool} {why : Int} {t : Ip} (h0 : t.err ≠ 0) : nxt val why t = (0, t) := by
  have hT : rawT t = t := if_pos h0
  have hV : rawV t = 0 := by unfold rawV; rw [hT]; exact if_neg h0
  have hf : failT why t = t := if_neg h0
  unfold nxt
  rw [hT, hV, hf]
  split <;> rfl

theorem nxt_bad {val : Int → Bool} {why : Int} {t : Ip} (h0 : t.err = 0) (h2 : (getS t.rest).2.2 ≠ 0) : nxt val why t = (0, ⟨[], ((getS t.rest).2.2 : Int)⟩) := by
  have hT : rawT t = ⟨[], ((getS t.rest).2.2 : Int)⟩ := (if_neg fun hh => hh h0).trans (if_pos h2)
  have hV : rawV t = 0 := by unfold rawV; rw [hT]; exact if_neg (by dsimp only; omega)
  have hf : failT why ⟨[], ((getS t.rest).2.2 : Int)⟩ = ⟨[], ((getS t.rest).2.2 : Int)⟩ := if_neg (by dsimp only; omega)
  unfold nxt
  rw [hT, hV, hf]
  split <;> rfl

theorem nxt_good {val : Int → Bool} {why : Int} {t : Ip} (h0 : t.err = 0) (h2 : (getS t.rest).2.2 = 0) : nxt val why t = if val (sg (getS t.rest).1) = true then (sg (getS t.rest).1, ⟨t.rest.drop (getS t.rest).2.1, 0⟩) else (0, ⟨[], why⟩) := by
  have hT : rawT t = ⟨t.rest.drop (getS t.rest).2.1, 0⟩ := (if_neg fun hh => hh h0).trans (if_neg fun hh => hh h2)
  have hV : rawV t = (getS t.rest).1 := by unfold rawV; rw [hT]; exact if_pos rfl
  unfold nxt
  rw [hT, hV]
  rfl

theorem numE_bad {bd why : Int} {t : Ip} (h0 : t.err = 0) (h2 : (getS t.rest).2.2 ≠ 0) : numE bd why t = (0, ⟨[], ((getS t.rest).2.2 : Int)⟩) := (if_neg fun hh => hh h0).trans (if_pos h2)

theorem numE_good {bd why : Int} {t : Ip} (h0 : t.err = 0) (h2 : (getS t.rest).2.2 = 0) : numE bd why t = if bd ≤ ((getS t.rest).1 : Int) then (0, ⟨[], why⟩) else (((getS t.rest).1 : Int), ⟨t.rest.drop (getS t.rest).2.1, 0⟩) := (if_neg fun hh => hh h0).trans (if_neg fun hh => hh h2)

theorem getS_lt2 {t : Ip} (hb : t.err = 0 → Byt t.rest) (h0 : t.err = 0) (h2 : (getS t.rest).2.2 = 0) : (getS t.rest).1 < 18446744073709551616 := by
  have hg : getS t.rest = ((getS t.rest).1, (getS t.rest).2.1, 0) := by rw [← h2]
  exact getS_lt (hb h0) hg

theorem nxt_num {bd why : Int} {t : Ip} (hb : t.err = 0 → Byt t.rest) (h1 : bd ≤ 9223372036854775808) : nxt (fun v => decide (0 ≤ v ∧ v < bd)) why t = numE bd why t := by
  by_cases h0 : t.err = 0
  · by_cases h2 : (getS t.rest).2.2 = 0
    · have hv := getS_lt2 hb h0 h2
      rw [nxt_good h0 h2, numE_good h0 h2]
      generalize (getS t.rest).1 = v at *
      unfold sg
      by_cases h3 : bd ≤ (v : Int)
      · rw [if_pos h3]
        refine if_neg fun h => ?_
        have := of_decide_eq_true h
        split at this <;> omega
      · rw [if_neg h3]
        have hs : (if v < 9223372036854775808 then (v : Int) else (v : Int) - 18446744073709551616) = v := if_pos (by omega)
        rw [hs]
        exact if_pos (decide_eq_true ⟨by omega, by omega⟩)
    · rw [nxt_bad h0 h2, numE_bad h0 h2]
  · rw [nxt_err h0, numE_err h0]

theorem nxt_loc {r n : Int} {t : Ip} (hb : t.err = 0 → Byt t.rest) (hr : r ≤ 1000000000) (hn : n ≤ 1000000000) : nxt (fun v => locS v r n) 10 t = locE r n t := by
  by_cases h0 : t.err = 0
  · by_cases h2 : (getS t.rest).2.2 = 0
    · have hv := getS_lt2 hb h0 h2
      rw [nxt_good h0 h2]
      unfold locE
      rw [numE_good h0 h2]
      generalize (getS t.rest).1 = v at *
      by_cases h3 : (4611686018427387904 : Int) ≤ (v : Int)
      · have hls : locS (sg v) r n = false := by
          unfold sg locS
          split
          · rw [if_neg (by omega)]
            split
            · exact decide_eq_false (by omega)
            · exact decide_eq_false (by omega)
          · rw [if_pos (by omega)]
        rw [if_pos h3, if_neg (c := (0, (⟨[], 10⟩ : Ip)).2.err = 0 ∧ locS (0, (⟨[], 10⟩ : Ip)).1 r n = false) fun h => absurd h.1 (by decide)]
        exact if_neg fun h => by have h' : locS (sg v) r n = true := h; rw [hls] at h'; cases h'
      · have hs : sg v = (v : Int) := if_pos (by omega)
        rw [hs, if_neg h3]
        dsimp only
        cases hl : locS (v : Int) r n
        · rfl
        · rfl
    · rw [nxt_bad h0 h2]
      unfold locE
      rw [numE_bad h0 h2]
      exact (if_neg fun h => by have := h.1; dsimp only at this; omega).symm
  · rw [nxt_err h0, locE_err h0]

/-- What Byte leaves of an input, and what it returns. -/
def byT (t : Ip) : Ip := if t.err ≠ 0 then t else match t.rest with
  | [] => ⟨[], 1⟩
  | _ :: r => ⟨r, 0⟩

def byV (t : Ip) : Nat := if t.err ≠ 0 then 0 else match t.rest with
  | [] => 0
  | c :: _ => c

theorem byV_lt {t : Ip} (hb : t.err = 0 → Byt t.rest) : byV t < 256 := by
  obtain ⟨l, e⟩ := t
  unfold byV
  by_cases h0 : e = 0
  · rw [if_neg (fun hh => hh h0)]
    rcases l with _ | ⟨x, r⟩
    · exact Nat.zero_lt_succ _
    · exact hb h0 x (by simp)
  · rw [if_pos h0]; exact Nat.zero_lt_succ _

section
variable {w : World} {lo p : Nat} {l : List Nat} {A : Option Addr} {c : Nat} {t : Ip}

theorem byte_ce (h : CE lo p l A c t w) :
    Calls Tryz.prog 18 #[.pointer (some ⟨p, 0, none⟩)] w fun e w' => e = .returned (.int .u8 (byV t)) ∧ Mods (Is p) w w' ∧ CE lo p l A c (byT t) w' := by
  obtain ⟨i, hc, hr⟩ := h
  refine (byte_any hc).mono ?_
  rintro e w' ⟨rfl, hm, hc'⟩
  obtain ⟨u, er⟩ := t
  dsimp only at *
  by_cases h0 : er = 0
  · have hr0 := hr h0
    rw [hr0] at hc' ⊢
    rcases u with _ | ⟨x, r⟩
    · have hT : byT ⟨[], er⟩ = ⟨[], 1⟩ := if_neg (fun hh => hh h0)
      have hV : byV ⟨[], er⟩ = 0 := if_neg (fun hh => hh h0)
      refine ⟨by rw [hV, stepV, if_neg (fun h => by have := h.2; simp [byteS] at this)], hm, ⟨i, ?_, fun h => absurd h (by rw [hT]; decide)⟩⟩
      rw [hT]
      rw [stepI, if_neg (fun h => by have := h.2; simp [byteS] at this), stepE, if_pos h0] at hc'
      exact hc'
    · have hT : byT ⟨x :: r, er⟩ = ⟨r, 0⟩ := if_neg (fun hh => hh h0)
      have hV : byV ⟨x :: r, er⟩ = x := if_neg (fun hh => hh h0)
      refine ⟨by rw [hV, stepV, if_pos ⟨h0, rfl⟩]; rfl, hm, ⟨i + 1, ?_, fun _ => ?_⟩⟩
      · rw [hT]
        rw [stepI, if_pos ⟨h0, rfl⟩, stepE, if_pos h0] at hc'
        exact hc'
      · rw [hT, ← List.drop_drop, hr0]
        rfl
  · have hT : byT ⟨u, er⟩ = ⟨u, er⟩ := if_pos h0
    have hV : byV ⟨u, er⟩ = 0 := if_pos h0
    refine ⟨by rw [hV, stepV, if_neg fun h => h0 h.1], hm, ⟨i, ?_, fun h => absurd h (by rw [hT]; exact h0)⟩⟩
    rw [hT]
    rw [stepI, if_neg fun h => h0 h.1, stepE, if_neg h0] at hc'
    exact hc'

theorem int_ce (h : CE lo p l A c t w) :
    Calls Tryz.prog 98 #[.pointer (some ⟨p, 0, none⟩)] w fun e w' => e = .returned (.int .i64 (immE true t).1) ∧ Mods (Is p) w w' ∧ CE lo p l A c (immE true t).2 w' := by
  obtain ⟨i, hc, hr⟩ := h
  have hg : (getS (l.drop i)).1 ≤ 18446744073709551615 := by
    rcases getS_kinds (l.drop i) with ⟨x, n, h⟩ | h | h
    · have := getS_lt hc.rest h
      rw [h]; dsimp only; omega
    · rw [h]; decide
    · rw [h]; decide
  refine (int_any hc hg).mono ?_
  rintro e w' ⟨rfl, hm, hc'⟩
  by_cases h0 : t.err = 0
  · have hr0 := hr h0
    rw [hr0] at hc' ⊢
    by_cases h1 : (getS t.rest).2.2 = 0
    · have hT : immE true t = (uz ((getS t.rest).1 : Int), ⟨t.rest.drop (getS t.rest).2.1, 0⟩) := by unfold immE; rw [if_pos ⟨rfl, h0⟩, if_neg (fun hh => hh h1)]
      refine ⟨by rw [hT, stepV, if_pos ⟨h0, h1⟩], hm, ⟨i + (getS t.rest).2.1, ?_, fun _ => ?_⟩⟩
      · rw [hT]
        rw [stepI, if_pos ⟨h0, h1⟩, stepE, if_pos h0, h1] at hc'
        exact hc'
      · rw [hT, ← List.drop_drop, hr0]
    · have hT : immE true t = (0, ⟨[], ((getS t.rest).2.2 : Int)⟩) := by unfold immE; rw [if_pos ⟨rfl, h0⟩, if_pos h1]
      refine ⟨by rw [hT, stepV, if_neg fun h => h1 h.2]; rfl, hm, ⟨i, ?_, fun h => absurd h (by rw [hT]; simp only; omega)⟩⟩
      rw [hT]
      rw [stepI, if_neg fun h => h1 h.2, stepE, if_pos h0] at hc'
      exact hc'
  · have hT : immE true t = (0, t) := immE_err h0
    refine ⟨by rw [hT, stepV, if_neg fun h => h0 h.1]; rfl, hm, ⟨i, ?_, fun h => absurd h (by rw [hT]; exact h0)⟩⟩
    rw [hT]
    rw [stepI, if_neg fun h => h0 h.1, stepE, if_neg h0] at hc'
    exact hc'

end

def frs (val : Int → Bool) (why : Int) (t : Ip) : Int × Ip := if val (byV t) = true then ((byV t : Int), byT t) else (0, failT why (byT t))

theorem frs_first {most nt why : Int} {val : Int → Bool} {t : Ip} (hb : t.err = 0 → Byt t.rest) (hval : ∀ v : Int, 0 ≤ v → v < 256 → val v = !decide (v < 1 ∨ most < v ∨ v = nt)) : frs val why t = firstE most nt why t := by
  have v0 : val 0 = false := by rw [hval 0 (by decide) (by decide), decide_eq_true (.inl (by decide))]; rfl
  obtain ⟨l, e⟩ := t
  dsimp only at hb
  by_cases h0 : e = 0
  · unfold frs
    rcases l with _ | ⟨x, r⟩
    · have hT : byT ⟨[], e⟩ = ⟨[], 1⟩ := if_neg (fun hh => hh h0)
      have hV : byV ⟨[], e⟩ = 0 := if_neg (fun hh => hh h0)
      have hF : firstE most nt why ⟨[], e⟩ = (0, ⟨[], 1⟩) := if_neg fun hh => hh h0
      rw [hT, hV, hF]
      exact if_neg (by rw [show ((0 : Nat) : Int) = 0 from rfl, v0]; decide)
    · have hT : byT ⟨x :: r, e⟩ = ⟨r, 0⟩ := if_neg (fun hh => hh h0)
      have hV : byV ⟨x :: r, e⟩ = x := if_neg (fun hh => hh h0)
      have hF : firstE most nt why ⟨x :: r, e⟩ = if (x : Int) < 1 ∨ most < (x : Int) ∨ (x : Int) = nt then (0, ⟨[], why⟩) else ((x : Int), ⟨r, 0⟩) := if_neg fun hh => hh h0
      have hx := hb h0 x (by simp)
      rw [hT, hV, hF, hval x (by omega) (by omega)]
      by_cases h1 : (x : Int) < 1 ∨ most < (x : Int) ∨ (x : Int) = nt
      · rw [decide_eq_true h1, if_pos h1]
        exact if_neg (by decide)
      · rw [decide_eq_false h1, if_neg h1]
        exact if_pos (by decide)
  · have hT : byT ⟨l, e⟩ = ⟨l, e⟩ := if_pos h0
    have hV : byV ⟨l, e⟩ = 0 := if_pos h0
    unfold frs firstE
    rw [hT, hV, show failT why ⟨l, e⟩ = ⟨l, e⟩ from if_neg h0]
    exact (if_neg (by rw [show ((0 : Nat) : Int) = 0 from rfl, v0]; decide)).trans (if_pos h0).symm

set_option maxRecDepth 100000 in
set_option maxHeartbeats 1000000 in
theorem getfirst_any {w : World} {lo p : Nat} {l : List Nat} {A : Option Addr} {c : Nat} {t : Ip} (h : CE lo p l A c t w) (why : Int) (hwhy : why ≠ 0) (K : FuncId) (hK : ∀ args W, (callFunc K args).run Tryz.prog W = .ok (.enter K args) W) (val : Int → Bool)
    (HV : Hid (∀ v W, 0 ≤ v ∧ v < 256 → Calls Tryz.prog K #[.int .i64 v] W fun e w' => e = .returned (.bool (val v)) ∧ Below W.heap.size W w')) :
    Calls Tryz.prog 80 #[.func (.func 18) #[.pointer (some ⟨p, 0, none⟩)] #[], .func (.func 66) #[.pointer (some ⟨p, 0, none⟩)] #[], .func (.func K) #[] #[], .int .i64 why] w
      fun e w' => e = .returned (.int .i64 (frs val why t).1) ∧ Mods (Is p) w w' ∧ CE lo p l A c (frs val why t).2 w' := by
  have hv := byV_lt h.byt
  have HC := Lib.hid (byte_ce h)
  have HN := Lib.hid (show frs val why t = if val (byV t) = true then ((byV t : Int), byT t) else (0, failT why (byT t)) from rfl)
  clear h
  generalize byV t = b at *
  go_enter Tryz.func80, Tryz.ntmps80
  go_wp2_with fail
  refine HC.out.mono ?_
  rintro e W2 ⟨rfl, hm, hc⟩
  have HM2 := Lib.hid hm
  have HC2 := Lib.hid hc
  clear hm hc HC
  have CV := Lib.hid (HV.out (b : Int) W2 ⟨by omega, by omega⟩)
  cases hval : val (b : Int) with
  | false =>
    have HN2 : Hid (frs val why t = (0, failT why (byT t))) := by rw [Hid, HN.out, hval]; rfl
    rw [hval] at CV
    go_wp2_with fail
    refine CV.out.mono ?_
    rintro e W3 ⟨rfl, hb⟩
    have HM3 := Lib.hid (HM2.out.trans (Mods.of_below hb))
    have CF := Lib.hid (fail_ce (HC2.out.mods (S := No) (Mods.of_below hb) fun _ hk => hk.elim) why hwhy)
    clear hb
    go_wp2_with fail
    refine CF.out.mono ?_
    rintro e W4 ⟨rfl, hm, hc⟩
    have HM4 := Lib.hid (HM3.out.trans hm)
    have HC4 := Lib.hid hc
    clear hm hc
    go_wp2
    go_ret
    exact ⟨by rw [HN2.out]; rfl, HM4.out, by rw [HN2.out]; exact HC4.out⟩
  | true =>
    have HN2 : Hid (frs val why t = ((b : Int), byT t)) := by rw [Hid, HN.out, hval]; rfl
    rw [hval] at CV
    go_wp2_with fail
    refine CV.out.mono ?_
    rintro e W3 ⟨rfl, hb⟩
    have HM3 := Lib.hid (HM2.out.trans (Mods.of_below hb))
    have HC3 := Lib.hid (HC2.out.mods (S := No) (Mods.of_below hb) fun _ hk => hk.elim)
    clear hb
    go_wp2
    go_ret
    exact ⟨by rw [HN2.out]; rfl, HM3.out, by rw [HN2.out]; exact HC3.out⟩

set_option maxRecDepth 100000 in
set_option maxHeartbeats 1000000 in
theorem geti_any {v : Value} {W : World} {v1 : Int} {R : World → Prop} (b : Bool)
    (HC : Hid (b = true → Calls Tryz.prog 93 #[v] W fun e w' => e = .returned (.int .i64 v1) ∧ R w')) (HZ : b = false → v1 = 0 ∧ R W) :
    Calls Tryz.prog 92 #[.bool b, .func (.func 93) #[v] #[]] W fun e w' => e = .returned (.int .i64 v1) ∧ R w' := by
  cases b
  · obtain ⟨rfl, hr⟩ := HZ rfl
    have HR := Lib.hid hr
    clear hr HZ
    go_enter Tryz.func92, Tryz.ntmps92
    go_wp2
    go_ret
    exact ⟨rfl, HR.out⟩
  · have HC2 := Lib.hid (HC.out rfl)
    clear HZ HC
    go_enter Tryz.func92, Tryz.ntmps92
    go_wp2_with fail
    refine HC2.out.mono ?_
    rintro e W2 ⟨rfl, hr⟩
    have HR := Lib.hid hr
    clear hr
    go_wp2
    go_ret
    exact ⟨rfl, HR.out⟩

set_option maxRecDepth 100000 in
set_option maxHeartbeats 1000000 in
theorem getl_any {p : Nat} {W : World} {v1 : Int} {R : World → Prop} (b : Bool)
    (HC : Hid (b = true → Calls Tryz.prog 98 #[.pointer (some ⟨p, 0, none⟩)] W fun e w' => e = .returned (.int .i64 v1) ∧ R w')) (HZ : b = false → v1 = 0 ∧ R W) :
    Calls Tryz.prog 97 #[.bool b, .func (.func 98) #[.pointer (some ⟨p, 0, none⟩)] #[]] W fun e w' => e = .returned (.int .i64 v1) ∧ R w' := by
  cases b
  · obtain ⟨rfl, hr⟩ := HZ rfl
    have HR := Lib.hid hr
    clear hr HZ
    go_enter Tryz.func97, Tryz.ntmps97
    go_wp2
    go_ret
    exact ⟨rfl, HR.out⟩
  · have HC2 := Lib.hid (HC.out rfl)
    clear HZ HC
    go_enter Tryz.func97, Tryz.ntmps97
    go_wp2_with fail
    refine HC2.out.mono ?_
    rintro e W2 ⟨rfl, hr⟩
    have HR := Lib.hid hr
    clear hr
    go_wp2
    go_ret
    exact ⟨rfl, HR.out⟩

end Go.Proofs.YtkapmfopfddmbaaGreat

/-
  The program of layer 17: below, within, unlessFailed, termShapeOf, isKind, a field that may be used (made by wip/lab/genicpgb.py).
-/
namespace Go.Proofs.YtkapmfopfddmbaaGreat
open Go.RowKit
set_option linter.unusedVariables false
set_option linter.unusedSimpArgs false

/-- A field: how it is read from the cursor at p. -/
def numC (p : Nat) (K : FuncId) (caps : Array Value) (why : Int) : Array Value := #[.func (.func 45) #[.pointer (some ⟨p, 0, none⟩)] #[], .func (.func 66) #[.pointer (some ⟨p, 0, none⟩)] #[], .func (.func K) #[] caps, .int .i64 why]

set_option maxRecDepth 100000 in
set_option maxHeartbeats 1000000 in
theorem below1_any (x : Nat) (bd v : Int) (W : World) (hx : Row W x 3 #[.int .i64 bd]) :
    Calls Tryz.prog 101 #[.int .i64 v, .pointer (some ⟨x, 0, none⟩)] W fun e w' => e = .returned (.bool (decide (0 ≤ v ∧ v < bd))) ∧ W = w' := by
  have c0 := hx.cell 0
  simp only [List.getElem?_toArray, List.getElem?_cons_zero, List.getElem?_cons_succ] at c0
  clear hx
  generalize hb : decide (0 ≤ v ∧ v < bd) = b
  by_cases h0 : 0 ≤ v
  · have HE : Hid (b = decide (v < bd)) := by show _ = _; rw [← hb]; simp [h0]
    clear hb
    go_enter Tryz.func101, Tryz.ntmps101
    go_wp2
    go_ret
    exact ⟨by rw [HE.out]; rfl, rfl⟩
  · have HE : Hid (b = false) := by show _ = _; rw [← hb]; simp [h0]
    have h1 : v < 0 := by omega
    clear hb
    go_enter Tryz.func101, Tryz.ntmps101
    go_wp2
    go_ret
    exact ⟨by rw [HE.out]; rfl, rfl⟩

set_option maxRecDepth 100000 in
set_option maxHeartbeats 1000000 in
theorem within1_any (x y : Nat) (r n v : Int) (W : World) (hx : Row W x 3 #[.int .i64 r]) (hy : Row W y 3 #[.int .i64 n]) (hv : Fits v) :
    Calls Tryz.prog 103 #[.int .i64 v, .pointer (some ⟨x, 0, none⟩), .pointer (some ⟨y, 0, none⟩)] W fun e w' => e = .returned (.bool (locS v r n)) ∧ W = w' := by
  have c0 := hx.cell 0
  have c1 := hy.cell 0
  simp only [List.getElem?_toArray, List.getElem?_cons_zero, List.getElem?_cons_succ] at c0 c1
  have C := Lib.hid (locin_any v r n W hv)
  clear hx hy
  generalize locS v r n = b at *
  go_enter Tryz.func103, Tryz.ntmps103
  go_wp2_with fail
  refine C.out.mono ?_
  rintro e W2 ⟨rfl, rfl⟩
  go_wp2
  go_ret
  exact ⟨rfl, rfl⟩

theorem two_rowsI (w : World) (T T' : TypeId) (x y : Array Value) : Below w.heap.size w ((w.alloc (.cells x T)).alloc (.cells y T')) ∧ Row ((w.alloc (.cells x T)).alloc (.cells y T')) w.heap.size T x ∧ Row ((w.alloc (.cells x T)).alloc (.cells y T')) (w.heap.size + 1) T' y := by
  have hR := Row.new (w.alloc (.cells x T)) T' y
  rw [show (w.alloc (.cells x T)).heap.size = w.heap.size + 1 by simp] at hR
  exact ⟨((Below.refl w.heap.size w).alloc (Nat.le_refl _) _).alloc (by simp) _, (Row.new w T x).alloc _, hR⟩

theorem three_rowsI (w : World) (T T' T2 : TypeId) (x y z : Array Value) : Below w.heap.size w (((w.alloc (.cells x T)).alloc (.cells y T')).alloc (.cells z T2)) ∧ Row (((w.alloc (.cells x T)).alloc (.cells y T')).alloc (.cells z T2)) w.heap.size T x ∧ Row (((w.alloc (.cells x T)).alloc (.cells y T')).alloc (.cells z T2)) (w.heap.size + 1) T' y ∧ Row (((w.alloc (.cells x T)).alloc (.cells y T')).alloc (.cells z T2)) (w.heap.size + 1 + 1) T2 z := by
  have hR := Row.new (w.alloc (.cells x T)) T' y
  rw [show (w.alloc (.cells x T)).heap.size = w.heap.size + 1 by simp] at hR
  have hR2 := Row.new ((w.alloc (.cells x T)).alloc (.cells y T')) T2 z
  rw [show ((w.alloc (.cells x T)).alloc (.cells y T')).heap.size = w.heap.size + 1 + 1 by simp] at hR2
  exact ⟨(((Below.refl w.heap.size w).alloc (Nat.le_refl _) _).alloc (by simp) _).alloc (by simp; omega) _, ((Row.new w T x).alloc _).alloc _, hR.alloc _, hR2⟩

set_option maxRecDepth 100000 in
set_option maxHeartbeats 1000000 in
theorem below_any (p : Nat) (bd why : Int) (w : World) :
    Calls Tryz.prog 91 #[.pointer (some ⟨p, 0, none⟩), .int .i64 bd, .int .i64 why] w fun e w' => ∃ x, e = .returned (.agg (numC p 101 #[.pointer (some ⟨x, 0, none⟩)] why)) ∧ w.heap.size ≤ x ∧ Row w' x 3 #[.int .i64 bd] ∧ Below w.heap.size w w' := by
  have hmf : ∀ (fn : Fn) (first cap : Array Value) (w : World), (Instr.makeFunc fn first cap).run Tryz.prog w = .ok (.func fn first cap) w := fun _ _ _ _ => rfl
  obtain ⟨t1, t2, t3⟩ := two_rowsI w 3 133 #[.int .i64 bd] #[.func (.func 45) #[.pointer (some ⟨p, 0, none⟩)] #[], .func (.func 66) #[.pointer (some ⟨p, 0, none⟩)] #[], .func (.func 101) #[] #[.pointer (some ⟨w.heap.size, 0, none⟩)], .int .i64 why]
  have HB := Lib.hid t1
  have HX := Lib.hid t2
  have HR := Lib.hid t3
  clear t1 t2 t3
  go_enter Tryz.func91, Tryz.ntmps91
  go_wp2
  (try simp only [Exit.inBlock, Exit.then])
  refine bodyPost_ret (v := .agg #[.func (.func 45) #[.pointer (some ⟨p, 0, none⟩)] #[], .func (.func 66) #[.pointer (some ⟨p, 0, none⟩)] #[], .func (.func 101) #[] #[.pointer (some ⟨w.heap.size, 0, none⟩)], .int .i64 why]) ?_ rfl ⟨w.heap.size, rfl, Nat.le_refl _, HX.out, HB.out⟩
  exact results_cell_row rfl _ _ (w.heap.size + 1) 133 _ (0, 0) _ rfl HR.out Tryz.underlying133 rfl (by kernel_rfl)

set_option maxRecDepth 100000 in
set_option maxHeartbeats 1000000 in
theorem within_any (p : Nat) (r n : Int) (w : World) :
    Calls Tryz.prog 99 #[.pointer (some ⟨p, 0, none⟩), .int .i64 r, .int .i64 n] w fun e w' => ∃ x y, e = .returned (.agg (numC p 103 #[.pointer (some ⟨x, 0, none⟩), .pointer (some ⟨y, 0, none⟩)] 10)) ∧ w.heap.size ≤ x ∧ w.heap.size ≤ y ∧ Row w' x 3 #[.int .i64 r] ∧ Row w' y 3 #[.int .i64 n] ∧ Below w.heap.size w w' := by
  have hmf : ∀ (fn : Fn) (first cap : Array Value) (w : World), (Instr.makeFunc fn first cap).run Tryz.prog w = .ok (.func fn first cap) w := fun _ _ _ _ => rfl
  obtain ⟨t1, t2, t3, t4⟩ := three_rowsI w 3 3 133 #[.int .i64 r] #[.int .i64 n] #[.func (.func 45) #[.pointer (some ⟨p, 0, none⟩)] #[], .func (.func 66) #[.pointer (some ⟨p, 0, none⟩)] #[], .func (.func 103) #[] #[.pointer (some ⟨w.heap.size, 0, none⟩), .pointer (some ⟨w.heap.size + 1, 0, none⟩)], .int .i64 10]
  have HB := Lib.hid t1
  have HX := Lib.hid t2
  have HY := Lib.hid t3
  have HR := Lib.hid t4
  clear t1 t2 t3 t4
  go_enter Tryz.func99, Tryz.ntmps99
  go_wp2
  (try simp only [Exit.inBlock, Exit.then])
  refine bodyPost_ret (v := .agg #[.func (.func 45) #[.pointer (some ⟨p, 0, none⟩)] #[], .func (.func 66) #[.pointer (some ⟨p, 0, none⟩)] #[], .func (.func 103) #[] #[.pointer (some ⟨w.heap.size, 0, none⟩), .pointer (some ⟨w.heap.size + 1, 0, none⟩)], .int .i64 10]) ?_ rfl ⟨w.heap.size, w.heap.size + 1, rfl, Nat.le_refl _, Nat.le_succ _, HX.out, HY.out, HB.out⟩
  exact results_cell_row rfl _ _ (w.heap.size + 1 + 1) 133 _ (0, 0) _ rfl HR.out Tryz.underlying133 rfl (by kernel_rfl)

set_option maxRecDepth 100000 in
set_option maxHeartbeats 1000000 in
theorem unl_instr {w : World} {lo p : Nat} {l : List Nat} {A : Option Addr} {c : Nat} {t : Ip} (h : CE lo p l A c t w) (v0 v1 v2 v3 v4 : Int) :
    Calls Tryz.prog 82 #[.pointer (some ⟨p, 0, none⟩), .agg #[.int .i64 v0, .int .i64 v1, .int .i64 v2, .int .i64 v3, .int .i64 v4]] w fun e w' => e = .returned (.agg (if t.err ≠ 0 then #[.int .i64 0, .int .i64 0, .int .i64 0, .int .i64 0, .int .i64 0] else #[.int .i64 v0, .int .i64 v1, .int .i64 v2, .int .i64 v3, .int .i64 v4])) ∧ Below w.heap.size w w' := by
  obtain ⟨i, hc, _⟩ := h
  obtain ⟨t1, t2, t3⟩ := two_rowsI w 79 79 #[.int .i64 v0, .int .i64 v1, .int .i64 v2, .int .i64 v3, .int .i64 v4] #[.int .i64 0, .int .i64 0, .int .i64 0, .int .i64 0, .int .i64 0]
  have HB := Lib.hid t1
  have HX := Lib.hid t2
  have HR := Lib.hid t3
  have hu : ¬ w.heap.size + 1 = w.heap.size := by omega
  have CC := Lib.hid (err_any ((hc.alloc (.cells #[.int .i64 v0, .int .i64 v1, .int .i64 v2, .int .i64 v3, .int .i64 v4] 79)).alloc (.cells #[.int .i64 0, .int .i64 0, .int .i64 0, .int .i64 0, .int .i64 0] 79)))
  clear t1 t2 t3 hc
  by_cases he : t.err ≠ 0
  · rw [if_pos he]
    have d0 : (t.err != 0) = true := by simp [he]
    clear he HB HX HR
    obtain ⟨t1, _, t3, t4⟩ := three_rowsI w 79 79 79 #[.int .i64 v0, .int .i64 v1, .int .i64 v2, .int .i64 v3, .int .i64 v4] #[.int .i64 0, .int .i64 0, .int .i64 0, .int .i64 0, .int .i64 0] #[.int .i64 0, .int .i64 0, .int .i64 0, .int .i64 0, .int .i64 0]
    have HB2 := Lib.hid t1
    have HR2 := Lib.hid t3
    have HZ := Lib.hid t4
    clear t1 t3 t4
    go_enter Tryz.func82, Tryz.ntmps82
    go_wp2_with fail
    refine CC.out.mono ?_
    rintro e W2 ⟨rfl, rfl⟩
    clear CC
    go_upto_region 3 with fail
    generalize (((w.alloc (.cells #[.int .i64 v0, .int .i64 v1, .int .i64 v2, .int .i64 v3, .int .i64 v4] 79)).alloc (.cells #[.int .i64 0, .int .i64 0, .int .i64 0, .int .i64 0, .int .i64 0] 79)).alloc (.cells #[.int .i64 0, .int .i64 0, .int .i64 0, .int .i64 0, .int .i64 0] 79)) = W2 at *
    have k0 := HR2.out.cell 0; have k1 := HR2.out.cell 1; have k2 := HR2.out.cell 2; have k3 := HR2.out.cell 3; have k4 := HR2.out.cell 4
    have kf0 := HR2.out.frozen 0; have kf1 := HR2.out.frozen 1; have kf2 := HR2.out.frozen 2; have kf3 := HR2.out.frozen 3; have kf4 := HR2.out.frozen 4
    simp only [List.getElem?_toArray, List.getElem?_cons_zero, List.getElem?_cons_succ] at k0 k1 k2 k3 k4
    have z0 := HZ.out.cell 0; have z1 := HZ.out.cell 1; have z2 := HZ.out.cell 2; have z3 := HZ.out.cell 3; have z4 := HZ.out.cell 4
    have zf0 := HZ.out.frozen 0; have zf1 := HZ.out.frozen 1; have zf2 := HZ.out.frozen 2; have zf3 := HZ.out.frozen 3; have zf4 := HZ.out.frozen 4
    simp only [List.getElem?_toArray, List.getElem?_cons_zero, List.getElem?_cons_succ] at z0 z1 z2 z3 z4
    go_wp2
    (try simp only [Exit.inBlock, Exit.then])
    refine bodyPost_ret (v := .agg #[.int .i64 0, .int .i64 0, .int .i64 0, .int .i64 0, .int .i64 0]) ?_ rfl ⟨rfl, HB2.out.trans ((mods5i W2 (w.heap.size + 1) (.int .i64 0) (.int .i64 0) (.int .i64 0) (.int .i64 0) (.int .i64 0)).below HB2.out.size fun k hk => by have : k = w.heap.size + 1 := hk; omega)⟩
    exact results_cell_row rfl _ _ (w.heap.size + 1) 79 #[.int .i64 0, .int .i64 0, .int .i64 0, .int .i64 0, .int .i64 0] (0, 0) _ rfl (HR2.out.put5i _ _ _ _ _) Tryz.underlying79 rfl (by kernel_rfl)
  · rw [if_neg he]
    have d0 : (t.err != 0) = false := by simpa using he
    clear he
    go_enter Tryz.func82, Tryz.ntmps82
    go_wp2_with fail
    refine CC.out.mono ?_
    rintro e W2 ⟨rfl, rfl⟩
    generalize ((w.alloc (.cells #[.int .i64 v0, .int .i64 v1, .int .i64 v2, .int .i64 v3, .int .i64 v4] 79)).alloc (.cells #[.int .i64 0, .int .i64 0, .int .i64 0, .int .i64 0, .int .i64 0] 79)) = W1 at *
    have k0 := HR.out.cell 0; have k1 := HR.out.cell 1; have k2 := HR.out.cell 2; have k3 := HR.out.cell 3; have k4 := HR.out.cell 4
    have kf0 := HR.out.frozen 0; have kf1 := HR.out.frozen 1; have kf2 := HR.out.frozen 2; have kf3 := HR.out.frozen 3; have kf4 := HR.out.frozen 4
    simp only [List.getElem?_toArray, List.getElem?_cons_zero, List.getElem?_cons_succ] at k0 k1 k2 k3 k4
    have z0 := HX.out.cell 0; have z1 := HX.out.cell 1; have z2 := HX.out.cell 2; have z3 := HX.out.cell 3; have z4 := HX.out.cell 4
    have zf0 := HX.out.frozen 0; have zf1 := HX.out.frozen 1; have zf2 := HX.out.frozen 2; have zf3 := HX.out.frozen 3; have zf4 := HX.out.frozen 4
    simp only [List.getElem?_toArray, List.getElem?_cons_zero, List.getElem?_cons_succ] at z0 z1 z2 z3 z4
    clear CC
    go_wp2
    (try simp only [Exit.inBlock, Exit.then])
    refine bodyPost_ret (v := .agg #[.int .i64 v0, .int .i64 v1, .int .i64 v2, .int .i64 v3, .int .i64 v4]) ?_ rfl ⟨rfl, HB.out.trans ((mods5i W1 (w.heap.size + 1) (.int .i64 v0) (.int .i64 v1) (.int .i64 v2) (.int .i64 v3) (.int .i64 v4)).below HB.out.size fun k hk => by have : k = w.heap.size + 1 := hk; omega)⟩
    exact results_cell_row rfl _ _ (w.heap.size + 1) 79 #[.int .i64 v0, .int .i64 v1, .int .i64 v2, .int .i64 v3, .int .i64 v4] (0, 0) _ rfl (HR.out.put5i _ _ _ _ _) Tryz.underlying79 rfl (by kernel_rfl)

set_option maxRecDepth 100000 in
set_option maxHeartbeats 1000000 in
theorem unl_mach {w : World} {lo p : Nat} {l : List Nat} {A : Option Addr} {c : Nat} {t : Ip} (h : CE lo p l A c t w) (v0 v1 v2 v3 v4 v5 v6 : Int) :
    Calls Tryz.prog 85 #[.pointer (some ⟨p, 0, none⟩), .agg #[.int .i64 v0, .int .i64 v1, .int .i64 v2, .int .i64 v3, .int .i64 v4, .int .i64 v5, .int .i64 v6]] w fun e w' => e = .returned (.agg (if t.err ≠ 0 then #[.int .i64 0, .int .i64 0, .int .i64 0, .int .i64 0, .int .i64 0, .int .i64 0, .int .i64 0] else #[.int .i64 v0, .int .i64 v1, .int .i64 v2, .int .i64 v3, .int .i64 v4, .int .i64 v5, .int .i64 v6])) ∧ Below w.heap.size w w' := by
  obtain ⟨i, hc, _⟩ := h
  obtain ⟨t1, t2, t3⟩ := two_rowsI w 84 84 #[.int .i64 v0, .int .i64 v1, .int .i64 v2, .int .i64 v3, .int .i64 v4, .int .i64 v5, .int .i64 v6] #[.int .i64 0, .int .i64 0, .int .i64 0, .int .i64 0, .int .i64 0, .int .i64 0, .int .i64 0]
  have HB := Lib.hid t1
  have HX := Lib.hid t2
  have HR := Lib.hid t3
  have hu : ¬ w.heap.size + 1 = w.heap.size := by omega
  have CC := Lib.hid (err_any ((hc.alloc (.cells #[.int .i64 v0, .int .i64 v1, .int .i64 v2, .int .i64 v3, .int .i64 v4, .int .i64 v5, .int .i64 v6] 84)).alloc (.cells #[.int .i64 0, .int .i64 0, .int .i64 0, .int .i64 0, .int .i64 0, .int .i64 0, .int .i64 0] 84)))
  clear t1 t2 t3 hc
  by_cases he : t.err ≠ 0
  · rw [if_pos he]
    have d0 : (t.err != 0) = true := by simp [he]
    clear he HB HX HR
    obtain ⟨t1, _, t3, t4⟩ := three_rowsI w 84 84 84 #[.int .i64 v0, .int .i64 v1, .int .i64 v2, .int .i64 v3, .int .i64 v4, .int .i64 v5, .int .i64 v6] #[.int .i64 0, .int .i64 0, .int .i64 0, .int .i64 0, .int .i64 0, .int .i64 0, .int .i64 0] #[.int .i64 0, .int .i64 0, .int .i64 0, .int .i64 0, .int .i64 0, .int .i64 0, .int .i64 0]
    have HB2 := Lib.hid t1
    have HR2 := Lib.hid t3
    have HZ := Lib.hid t4
    clear t1 t3 t4
    go_enter Tryz.func85, Tryz.ntmps85
    go_wp2_with fail
    refine CC.out.mono ?_
    rintro e W2 ⟨rfl, rfl⟩
    clear CC
    go_upto_region 3 with fail
    generalize (((w.alloc (.cells #[.int .i64 v0, .int .i64 v1, .int .i64 v2, .int .i64 v3, .int .i64 v4, .int .i64 v5, .int .i64 v6] 84)).alloc (.cells #[.int .i64 0, .int .i64 0, .int .i64 0, .int .i64 0, .int .i64 0, .int .i64 0, .int .i64 0] 84)).alloc (.cells #[.int .i64 0, .int .i64 0, .int .i64 0, .int .i64 0, .int .i64 0, .int .i64 0, .int .i64 0] 84)) = W2 at *
    have k0 := HR2.out.cell 0; have k1 := HR2.out.cell 1; have k2 := HR2.out.cell 2; have k3 := HR2.out.cell 3; have k4 := HR2.out.cell 4; have k5 := HR2.out.cell 5; have k6 := HR2.out.cell 6
    have kf0 := HR2.out.frozen 0; have kf1 := HR2.out.frozen 1; have kf2 := HR2.out.frozen 2; have kf3 := HR2.out.frozen 3; have kf4 := HR2.out.frozen 4; have kf5 := HR2.out.frozen 5; have kf6 := HR2.out.frozen 6
    simp only [List.getElem?_toArray, List.getElem?_cons_zero, List.getElem?_cons_succ] at k0 k1 k2 k3 k4 k5 k6
    have z0 := HZ.out.cell 0; have z1 := HZ.out.cell 1; have z2 := HZ.out.cell 2; have z3 := HZ.out.cell 3; have z4 := HZ.out.cell 4; have z5 := HZ.out.cell 5; have z6 := HZ.out.cell 6
    have zf0 := HZ.out.frozen 0; have zf1 := HZ.out.frozen 1; have zf2 := HZ.out.frozen 2; have zf3 := HZ.out.frozen 3; have zf4 := HZ.out.frozen 4; have zf5 := HZ.out.frozen 5; have zf6 := HZ.out.frozen 6
    simp only [List.getElem?_toArray, List.getElem?_cons_zero, List.getElem?_cons_succ] at z0 z1 z2 z3 z4 z5 z6
    go_wp2
    (try simp only [Exit.inBlock, Exit.then])
    refine bodyPost_ret (v := .agg #[.int .i64 0, .int .i64 0, .int .i64 0, .int .i64 0, .int .i64 0, .int .i64 0, .int .i64 0]) ?_ rfl ⟨rfl, HB2.out.trans ((mods7i W2 (w.heap.size + 1) (.int .i64 0) (.int .i64 0) (.int .i64 0) (.int .i64 0) (.int .i64 0) (.int .i64 0) (.int .i64 0)).below HB2.out.size fun k hk => by have : k = w.heap.size + 1 := hk; omega)⟩
    exact results_cell_row rfl _ _ (w.heap.size + 1) 84 #[.int .i64 0, .int .i64 0, .int .i64 0, .int .i64 0, .int .i64 0, .int .i64 0, .int .i64 0] (0, 0) _ rfl (HR2.out.put7i _ _ _ _ _ _ _) Tryz.underlying84 rfl (by kernel_rfl)
  · rw [if_neg he]
    have d0 : (t.err != 0) = false := by simpa using he
    clear he
    go_enter Tryz.func85, Tryz.ntmps85
    go_wp2_with fail
    refine CC.out.mono ?_
    rintro e W2 ⟨rfl, rfl⟩
    generalize ((w.alloc (.cells #[.int .i64 v0, .int .i64 v1, .int .i64 v2, .int .i64 v3, .int .i64 v4, .int .i64 v5, .int .i64 v6] 84)).alloc (.cells #[.int .i64 0, .int .i64 0, .int .i64 0, .int .i64 0, .int .i64 0, .int .i64 0, .int .i64 0] 84)) = W1 at *
    have k0 := HR.out.cell 0; have k1 := HR.out.cell 1; have k2 := HR.out.cell 2; have k3 := HR.out.cell 3; have k4 := HR.out.cell 4; have k5 := HR.out.cell 5; have k6 := HR.out.cell 6
    have kf0 := HR.out.frozen 0; have kf1 := HR.out.frozen 1; have kf2 := HR.out.frozen 2; have kf3 := HR.out.frozen 3; have kf4 := HR.out.frozen 4; have kf5 := HR.out.frozen 5; have kf6 := HR.out.frozen 6
    simp only [List.getElem?_toArray, List.getElem?_cons_zero, List.getElem?_cons_succ] at k0 k1 k2 k3 k4 k5 k6
    have z0 := HX.out.cell 0; have z1 := HX.out.cell 1; have z2 := HX.out.cell 2; have z3 := HX.out.cell 3; have z4 := HX.out.cell 4; have z5 := HX.out.cell 5; have z6 := HX.out.cell 6
    have zf0 := HX.out.frozen 0; have zf1 := HX.out.frozen 1; have zf2 := HX.out.frozen 2; have zf3 := HX.out.frozen 3; have zf4 := HX.out.frozen 4; have zf5 := HX.out.frozen 5; have zf6 := HX.out.frozen 6
    simp only [List.getElem?_toArray, List.getElem?_cons_zero, List.getElem?_cons_succ] at z0 z1 z2 z3 z4 z5 z6
    clear CC
    go_wp2
    (try simp only [Exit.inBlock, Exit.then])
    refine bodyPost_ret (v := .agg #[.int .i64 v0, .int .i64 v1, .int .i64 v2, .int .i64 v3, .int .i64 v4, .int .i64 v5, .int .i64 v6]) ?_ rfl ⟨rfl, HB.out.trans ((mods7i W1 (w.heap.size + 1) (.int .i64 v0) (.int .i64 v1) (.int .i64 v2) (.int .i64 v3) (.int .i64 v4) (.int .i64 v5) (.int .i64 v6)).below HB.out.size fun k hk => by have : k = w.heap.size + 1 := hk; omega)⟩
    exact results_cell_row rfl _ _ (w.heap.size + 1) 84 #[.int .i64 v0, .int .i64 v1, .int .i64 v2, .int .i64 v3, .int .i64 v4, .int .i64 v5, .int .i64 v6] (0, 0) _ rfl (HR.out.put7i _ _ _ _ _ _ _) Tryz.underlying84 rfl (by kernel_rfl)

set_option maxRecDepth 100000 in
set_option maxHeartbeats 1000000 in
theorem unl_term {w : World} {lo p : Nat} {l : List Nat} {A : Option Addr} {c : Nat} {t : Ip} (h : CE lo p l A c t w) (v0 v1 v2 v3 : Int) :
    Calls Tryz.prog 94 #[.pointer (some ⟨p, 0, none⟩), .agg #[.int .i64 v0, .int .i64 v1, .int .i64 v2, .int .i64 v3]] w fun e w' => e = .returned (.agg (if t.err ≠ 0 then #[.int .i64 0, .int .i64 0, .int .i64 0, .int .i64 0] else #[.int .i64 v0, .int .i64 v1, .int .i64 v2, .int .i64 v3])) ∧ Below w.heap.size w w' := by
  obtain ⟨i, hc, _⟩ := h
  obtain ⟨t1, t2, t3⟩ := two_rowsI w 41 41 #[.int .i64 v0, .int .i64 v1, .int .i64 v2, .int .i64 v3] #[.int .i64 0, .int .i64 0, .int .i64 0, .int .i64 0]
  have HB := Lib.hid t1
  have HX := Lib.hid t2
  have HR := Lib.hid t3
  have hu : ¬ w.heap.size + 1 = w.heap.size := by omega
  have CC := Lib.hid (err_any ((hc.alloc (.cells #[.int .i64 v0, .int .i64 v1, .int .i64 v2, .int .i64 v3] 41)).alloc (.cells #[.int .i64 0, .int .i64 0, .int .i64 0, .int .i64 0] 41)))
  clear t1 t2 t3 hc
  by_cases he : t.err ≠ 0
  · rw [if_pos he]
    have d0 : (t.err != 0) = true := by simp [he]
    clear he HB HX HR
    obtain ⟨t1, _, t3, t4⟩ := three_rowsI w 41 41 41 #[.int .i64 v0, .int .i64 v1, .int .i64 v2, .int .i64 v3] #[.int .i64 0, .int .i64 0, .int .i64 0, .int .i64 0] #[.int .i64 0, .int .i64 0, .int .i64 0, .int .i64 0]
    have HB2 := Lib.hid t1
    have HR2 := Lib.hid t3
    have HZ := Lib.hid t4
    clear t1 t3 t4
    go_enter Tryz.func94, Tryz.ntmps94
    go_wp2_with fail
    refine CC.out.mono ?_
    rintro e W2 ⟨rfl, rfl⟩
    clear CC
    go_upto_region 3 with fail
    generalize (((w.alloc (.cells #[.int .i64 v0, .int .i64 v1, .int .i64 v2, .int .i64 v3] 41)).alloc (.cells #[.int .i64 0, .int .i64 0, .int .i64 0, .int .i64 0] 41)).alloc (.cells #[.int .i64 0, .int .i64 0, .int .i64 0, .int .i64 0] 41)) = W2 at *
    have k0 := HR2.out.cell 0; have k1 := HR2.out.cell 1; have k2 := HR2.out.cell 2; have k3 := HR2.out.cell 3
    have kf0 := HR2.out.frozen 0; have kf1 := HR2.out.frozen 1; have kf2 := HR2.out.frozen 2; have kf3 := HR2.out.frozen 3
    simp only [List.getElem?_toArray, List.getElem?_cons_zero, List.getElem?_cons_succ] at k0 k1 k2 k3
    have z0 := HZ.out.cell 0; have z1 := HZ.out.cell 1; have z2 := HZ.out.cell 2; have z3 := HZ.out.cell 3
    have zf0 := HZ.out.frozen 0; have zf1 := HZ.out.frozen 1; have zf2 := HZ.out.frozen 2; have zf3 := HZ.out.frozen 3
    simp only [List.getElem?_toArray, List.getElem?_cons_zero, List.getElem?_cons_succ] at z0 z1 z2 z3
    go_wp2
    (try simp only [Exit.inBlock, Exit.then])
    refine bodyPost_ret (v := .agg #[.int .i64 0, .int .i64 0, .int .i64 0, .int .i64 0]) ?_ rfl ⟨rfl, HB2.out.trans ((mods4i W2 (w.heap.size + 1) (.int .i64 0) (.int .i64 0) (.int .i64 0) (.int .i64 0)).below HB2.out.size fun k hk => by have : k = w.heap.size + 1 := hk; omega)⟩
    exact results_cell_row rfl _ _ (w.heap.size + 1) 41 #[.int .i64 0, .int .i64 0, .int .i64 0, .int .i64 0] (0, 0) _ rfl (HR2.out.put4i _ _ _ _) Tryz.underlying41 rfl (by kernel_rfl)
  · rw [if_neg he]
    have d0 : (t.err != 0) = false := by simpa using he
    clear he
    go_enter Tryz.func94, Tryz.ntmps94
    go_wp2_with fail
    refine CC.out.mono ?_
    rintro e W2 ⟨rfl, rfl⟩
    generalize ((w.alloc (.cells #[.int .i64 v0, .int .i64 v1, .int .i64 v2, .int .i64 v3] 41)).alloc (.cells #[.int .i64 0, .int .i64 0, .int .i64 0, .int .i64 0] 41)) = W1 at *
    have k0 := HR.out.cell 0; have k1 := HR.out.cell 1; have k2 := HR.out.cell 2; have k3 := HR.out.cell 3
    have kf0 := HR.out.frozen 0; have kf1 := HR.out.frozen 1; have kf2 := HR.out.frozen 2; have kf3 := HR.out.frozen 3
    simp only [List.getElem?_toArray, List.getElem?_cons_zero, List.getElem?_cons_succ] at k0 k1 k2 k3
    have z0 := HX.out.cell 0; have z1 := HX.out.cell 1; have z2 := HX.out.cell 2; have z3 := HX.out.cell 3
    have zf0 := HX.out.frozen 0; have zf1 := HX.out.frozen 1; have zf2 := HX.out.frozen 2; have zf3 := HX.out.frozen 3
    simp only [List.getElem?_toArray, List.getElem?_cons_zero, List.getElem?_cons_succ] at z0 z1 z2 z3
    clear CC
    go_wp2
    (try simp only [Exit.inBlock, Exit.then])
    refine bodyPost_ret (v := .agg #[.int .i64 v0, .int .i64 v1, .int .i64 v2, .int .i64 v3]) ?_ rfl ⟨rfl, HB.out.trans ((mods4i W1 (w.heap.size + 1) (.int .i64 v0) (.int .i64 v1) (.int .i64 v2) (.int .i64 v3)).below HB.out.size fun k hk => by have : k = w.heap.size + 1 := hk; omega)⟩
    exact results_cell_row rfl _ _ (w.heap.size + 1) 41 #[.int .i64 v0, .int .i64 v1, .int .i64 v2, .int .i64 v3] (0, 0) _ rfl (HR.out.put4i _ _ _ _) Tryz.underlying41 rfl (by kernel_rfl)

/-- What termShapeOf answers. -/
def kOk (k : Int) : Bool := decide (1 ≤ k ∧ k ≤ 3)

def kA (k : Int) : Bool := decide (k = 2 ∨ k = 3)

def kT (k : Int) : Bool := decide (k = 1 ∨ k = 2)

def kE (k : Int) : Bool := decide (k = 2)

def kshp (k : Int) : Value := .agg #[.bool (kA k), .bool (kT k), .bool (kE k)]

theorem kways (k : Int) : k = 1 ∨ k = 2 ∨ k = 3 ∨ ((k == 1) = false ∧ (k == 2) = false ∧ (k == 3) = false ∧ kOk k = false ∧ kA k = false ∧ kT k = false ∧ kE k = false) := by
  by_cases h1 : k = 1
  · exact .inl h1
  · by_cases h2 : k = 2
    · exact .inr (.inl h2)
    · by_cases h3 : k = 3
      · exact .inr (.inr (.inl h3))
      · exact .inr (.inr (.inr ⟨beq_eq_false_iff_ne.2 h1, beq_eq_false_iff_ne.2 h2, beq_eq_false_iff_ne.2 h3, decide_eq_false (by omega), decide_eq_false (by omega), decide_eq_false (by omega), decide_eq_false (by omega)⟩))

set_option maxRecDepth 100000 in
set_option maxHeartbeats 1000000 in
theorem tshape_any (k : Int) (w : World) :
    Calls Tryz.prog 90 #[.int .i64 k] w fun e w' => e = .returned (.tuple #[kshp k, .bool (kOk k)]) ∧ Below w.heap.size w w' := by
  rcases kways k with rfl | rfl | rfl | ⟨h1, h2, h3, e0, e1, e2, e3⟩
  · rw [show kshp 1 = .agg #[.bool false, .bool true, .bool false] from rfl, show kOk 1 = true from rfl]
    go_enter Tryz.func90, Tryz.ntmps90
    go_wp2
    (try simp only [Exit.inBlock, Exit.then])
    refine bodyPost_ret (v := .tuple #[.agg #[.bool false, .bool true, .bool false], .bool true]) ?_ rfl ⟨rfl, ?_⟩
    · rw [results_cell_tmp rfl]
      go_simp
    · exact (Below.refl _ _).alloc (Nat.le_refl _) _
  · rw [show kshp 2 = .agg #[.bool true, .bool true, .bool true] from rfl, show kOk 2 = true from rfl]
    go_enter Tryz.func90, Tryz.ntmps90
    go_wp2
    (try simp only [Exit.inBlock, Exit.then])
    refine bodyPost_ret (v := .tuple #[.agg #[.bool true, .bool true, .bool true], .bool true]) ?_ rfl ⟨rfl, ?_⟩
    · rw [results_cell_tmp rfl]
      go_simp
    · exact (Below.refl _ _).alloc (Nat.le_refl _) _
  · rw [show kshp 3 = .agg #[.bool true, .bool false, .bool false] from rfl, show kOk 3 = true from rfl]
    go_enter Tryz.func90, Tryz.ntmps90
    go_wp2
    (try simp only [Exit.inBlock, Exit.then])
    refine bodyPost_ret (v := .tuple #[.agg #[.bool true, .bool false, .bool false], .bool true]) ?_ rfl ⟨rfl, ?_⟩
    · rw [results_cell_tmp rfl]
      go_simp
    · exact (Below.refl _ _).alloc (Nat.le_refl _) _
  · rw [kshp, e0, e1, e2, e3]
    clear e0 e1 e2 e3
    go_enter Tryz.func90, Tryz.ntmps90
    go_wp2
    (try simp only [Exit.inBlock, Exit.then])
    refine bodyPost_ret (v := .tuple #[.agg #[.bool false, .bool false, .bool false], .bool false]) ?_ rfl ⟨rfl, ?_⟩
    · rw [results_cell_tmp rfl]
      go_simp
    · exact (Below.refl _ _).alloc (Nat.le_refl _) _

set_option maxRecDepth 100000 in
set_option maxHeartbeats 1000000 in
theorem iskind_any (k : Int) (w : World) :
    Calls Tryz.prog 89 #[.int .i64 k] w fun e w' => e = .returned (.bool (kOk k)) ∧ Below w.heap.size w w' := by
  have C := Lib.hid (tshape_any k w)
  unfold kshp at C
  generalize kOk k = b at *
  go_enter Tryz.func89, Tryz.ntmps89
  go_wp2_with fail
  refine C.out.mono ?_
  rintro e W ⟨rfl, hb⟩
  have HB := Lib.hid hb
  clear hb C
  go_wp2
  go_ret
  exact ⟨rfl, HB.out.alloc HB.out.size _⟩

/-- A field that is used if b. -/
theorem optE_eq {b b' : Bool} {bd why : Int} {t : Ip} (h : t.err = 0 → b' = b) : optE b' bd why t = optE b bd why t := by
  by_cases h0 : t.err = 0
  · rw [h h0]
  · rw [optE_err h0, optE_err h0]

theorem fld_any {w : World} {lo p : Nat} {l : List Nat} {A : Option Addr} {c : Nat} {t : Ip} (h : CE lo p l A c t w) (b : Bool) (x : Nat) (bd why : Int) (hx : Row w x 3 #[.int .i64 bd]) (hne : x ≠ p) (hwhy : why ≠ 0) (hbd : bd ≤ 9223372036854775807) :
    Calls Tryz.prog 92 #[.bool b, .func (.func 93) #[.agg (numC p 101 #[.pointer (some ⟨x, 0, none⟩)] why)] #[]] w fun e w' => e = .returned (.int .i64 (optE b bd why t).1) ∧ Mods (Is p) w w' ∧ CE lo p l A c (optE b bd why t).2 w' := by
  refine geti_any b (fun hb => ?_) fun hb => ?_
  · subst hb
    have hn := nxt_num (why := why) h.byt (show bd ≤ 9223372036854775808 by omega)
    have := next_any h why hwhy 101 #[.pointer (some ⟨x, 0, none⟩)] (fun args W => enters_of Tryz.func101 (by kernel_rfl) rfl args W) (fun v => decide (0 ≤ v ∧ v < bd))
      (fun v W hv hm => below1_any x bd v W (hx.mods hm fun hh => hne hh))
    rw [hn] at this
    exact this
  · subst hb
    exact ⟨rfl, Mods.refl _ _, h⟩

theorem imm_any {w : World} {lo p : Nat} {l : List Nat} {A : Option Addr} {c : Nat} {t : Ip} (h : CE lo p l A c t w) (b : Bool) :
    Calls Tryz.prog 97 #[.bool b, .func (.func 98) #[.pointer (some ⟨p, 0, none⟩)] #[]] w fun e w' => e = .returned (.int .i64 (immE b t).1) ∧ Mods (Is p) w w' ∧ CE lo p l A c (immE b t).2 w' := by
  refine getl_any b (fun hb => ?_) fun hb => ?_
  · subst hb
    exact int_ce h
  · subst hb
    have : immE false t = (0, t) := if_neg fun hh => by cases hh.1
    rw [this]
    exact ⟨rfl, Mods.refl _ _, h⟩

theorem place_any {w : World} {lo p : Nat} {l : List Nat} {A : Option Addr} {c : Nat} {t : Ip} (h : CE lo p l A c t w) (x y : Nat) (r n : Int) (hx : Row w x 3 #[.int .i64 r]) (hy : Row w y 3 #[.int .i64 n]) (hne : x ≠ p) (hne' : y ≠ p) (hr : r ≤ 1000000000) (hn : n ≤ 1000000000) :
    Calls Tryz.prog 93 #[.agg (numC p 103 #[.pointer (some ⟨x, 0, none⟩), .pointer (some ⟨y, 0, none⟩)] 10)] w fun e w' => e = .returned (.int .i64 (locE r n t).1) ∧ Mods (Is p) w w' ∧ CE lo p l A c (locE r n t).2 w' := by
  have hl := nxt_loc h.byt hr hn
  have := next_any h 10 (by decide) 103 #[.pointer (some ⟨x, 0, none⟩), .pointer (some ⟨y, 0, none⟩)] (fun args W => enters_of Tryz.func103 (by kernel_rfl) rfl args W) (fun v => locS v r n)
    (fun v W hv hm => within1_any x y r n v W (hx.mods hm fun hh => hne hh) (hy.mods hm fun hh => hne' hh) hv)
  rw [hl] at this
  exact this

end Go.Proofs.YtkapmfopfddmbaaGreat

/-
  The program of layer 17: getFields (made by wip/lab/genicpgc.py).
-/
namespace Go.Proofs.YtkapmfopfddmbaaGreat
open Go.RowKit
set_option linter.unusedVariables false
set_option linter.unusedSimpArgs false

/-- What getFields carries: the result's block z, the shape s, the field k with its bound at x, the instruction j. -/
structure GFS (w : World) (lo p : Nat) (l : List Nat) (A : Option Addr) (c : Nat) (t : Ip) (regs : Int) (b0 b1 b2 b3 : Bool) (z s k x j : Nat) (v0 v1 v2 v3 v4 : Int) (W : World) : Prop where
  md : Mods (Is p) w W
  ce : CE lo p l A c t W
  z_ : Row W z 79 #[.int .i64 0, .int .i64 0, .int .i64 0, .int .i64 0, .int .i64 0]
  s_ : Row W s 138 #[.bool b0, .bool b1, .bool b2, .bool b3]
  k_ : Row W k 133 (numC p 101 #[.pointer (some ⟨x, 0, none⟩)] 9)
  x_ : Row W x 3 #[.int .i64 regs]
  j_ : Row W j 79 #[.int .i64 v0, .int .i64 v1, .int .i64 v2, .int .i64 v3, .int .i64 v4]
  pw : p < w.heap.size
  wz : w.heap.size ≤ z
  zs : z < s
  sx : s < x
  xk : x < k
  kj : k < j

section
variable {w : World} {lo p : Nat} {l : List Nat} {A : Option Addr} {c : Nat} {t t' : Ip} {regs : Int} {b0 b1 b2 b3 : Bool} {z s k x j : Nat} {v0 v1 v2 v3 v4 : Int} {W W' : World}

theorem GFS.next (h : GFS w lo p l A c t regs b0 b1 b2 b3 z s k x j v0 v1 v2 v3 v4 W) (hm : Mods (Is p) W W') (hc : CE lo p l A c t' W') : GFS w lo p l A c t' regs b0 b1 b2 b3 z s k x j v0 v1 v2 v3 v4 W' := by
  obtain ⟨md, ce, z_, s_, k_, x_, j_, pw, wz, zs, sx, xk, kj⟩ := h
  exact ⟨md.trans hm, hc, z_.mods hm (fun hh => by unfold Is at hh; omega), s_.mods hm (fun hh => by unfold Is at hh; omega), k_.mods hm (fun hh => by unfold Is at hh; omega), x_.mods hm (fun hh => by unfold Is at hh; omega), j_.mods hm (fun hh => by unfold Is at hh; omega), pw, wz, zs, sx, xk, kj⟩

theorem GFS.put (h : GFS w lo p l A c t regs b0 b1 b2 b3 z s k x j v0 v1 v2 v3 v4 W) (i : Nat) (u : Value) {u0 u1 u2 u3 u4 : Int} (e : (#[.int .i64 v0, .int .i64 v1, .int .i64 v2, .int .i64 v3, .int .i64 v4] : Array Value).setIfInBounds i u = #[.int .i64 u0, .int .i64 u1, .int .i64 u2, .int .i64 u3, .int .i64 u4]) :
    GFS w lo p l A c t regs b0 b1 b2 b3 z s k x j u0 u1 u2 u3 u4 (W.setCell ⟨j, i, none⟩ u) := by
  obtain ⟨md, ce, z_, s_, k_, x_, j_, pw, wz, zs, sx, xk, kj⟩ := h
  have hp := j_.put i u
  rw [e] at hp
  have hj : Mods (Is j) W (W.setCell ⟨j, i, none⟩ u) := (Mods.refl _ _).put i u
  exact ⟨md.then hj fun q hq => .inr (by unfold Is at hq; omega), ce.mods hj fun q hq => .inr (by unfold Is at hq; omega),
    z_.far (q := ⟨j, i, none⟩) (by show z ≠ j; omega) u, s_.far (q := ⟨j, i, none⟩) (by show s ≠ j; omega) u, k_.far (q := ⟨j, i, none⟩) (by show k ≠ j; omega) u, x_.far (q := ⟨j, i, none⟩) (by show x ≠ j; omega) u, hp, pw, wz, zs, sx, xk, kj⟩

end

set_option maxRecDepth 100000 in
set_option maxHeartbeats 4000000 in
theorem getfields_any {w : World} {lo p : Nat} {l : List Nat} {A : Option Addr} {c : Nat} {t : Ip} (h : CE lo p l A c t w) (op regs : Int) (hr : 0 ≤ regs ∧ regs ≤ 1000000000) :
    Calls Tryz.prog 83 #[.pointer (some ⟨p, 0, none⟩), .int .i64 op, .int .i64 regs] w
      fun e w' => e = .returned (.agg #[.int .i64 op, .int .i64 (dE op regs t).1, .int .i64 (aE op regs t).1, .int .i64 (bE op regs t).1, .int .i64 (iE op regs t).1]) ∧ Mods (Is p) w w' ∧ CE lo p l A c (iE op regs t).2 w' := by
  have hmf : ∀ (fn : Fn) (first cap : Array Value) (w : World), (Instr.makeFunc fn first cap).run Tryz.prog w = .ok (.func fn first cap) w := fun _ _ _ _ => rfl
  obtain ⟨td, hd⟩ : ∃ y, Hid (dE op regs t = y) := ⟨_, rfl⟩
  obtain ⟨ta, ha⟩ : ∃ y, Hid (aE op regs t = y) := ⟨_, rfl⟩
  obtain ⟨tb, hb⟩ : ∃ y, Hid (bE op regs t = y) := ⟨_, rfl⟩
  obtain ⟨ti, hi⟩ : ∃ y, Hid (iE op regs t = y) := ⟨_, rfl⟩
  rw [hd.out, ha.out, hb.out, hi.out]
  have ha2 : Hid (optE (uA op) regs 9 td.2 = ta) := by show _ = _; rw [← ha.out, ← hd.out]; rfl
  have hb2 : Hid (optE (uB op) regs 9 ta.2 = tb) := by show _ = _; rw [← hb.out, ← ha.out]; rfl
  have hi2 : Hid (immE (uI op) tb.2 = ti) := by
    show _ = _
    rw [← hi.out, ← hb.out, show uI op = (op == 1) by unfold uI; rw [Bool.eq_iff_iff]; simp]
    rfl
  have hd2 : Hid (optE (uD op) regs 9 t = td) := hd
  clear hd ha hb hi
  have hR := Lib.hid hr
  have hlt := h.lt
  have hrow := Row.new w 79 #[.int .i64 0, .int .i64 0, .int .i64 0, .int .i64 0, .int .i64 0]
  have hmd := (Mods.refl (Is p) w).alloc (.cells #[.int .i64 0, .int .i64 0, .int .i64 0, .int .i64 0, .int .i64 0] 79)
  have hce := h.alloc (.cells #[.int .i64 0, .int .i64 0, .int .i64 0, .int .i64 0, .int .i64 0] 79)
  have hzl : w.heap.size < (w.alloc (.cells #[.int .i64 0, .int .i64 0, .int .i64 0, .int .i64 0, .int .i64 0] 79)).heap.size := hrow.lt
  have HZ := Lib.hid hrow
  have HM := Lib.hid hmd
  have HC := Lib.hid hce
  clear hrow hmd hce h hr
  go_enter Tryz.func83, Tryz.ntmps83
  go_upto_region 1 with fail
  generalize (w.alloc (.cells #[.int .i64 0, .int .i64 0, .int .i64 0, .int .i64 0, .int .i64 0] 79)) = W0 at *
  generalize hz : w.heap.size = z at *
  have C1 := Lib.hid (of_any op W0)
  unfold shp at C1
  obtain ⟨bD, hD⟩ : ∃ y, Hid (uD op = y) := ⟨_, rfl⟩
  obtain ⟨bA, hA⟩ : ∃ y, Hid (uA op = y) := ⟨_, rfl⟩
  obtain ⟨bB, hB⟩ : ∃ y, Hid (uB op = y) := ⟨_, rfl⟩
  obtain ⟨bI, hI⟩ : ∃ y, Hid (uI op = y) := ⟨_, rfl⟩
  obtain ⟨bO, hO⟩ : ∃ y, Hid (uO op = y) := ⟨_, rfl⟩
  rw [hD.out, hA.out, hB.out, hI.out, hO.out] at C1
  rw [hD.out] at hd2
  rw [hA.out] at ha2
  rw [hB.out] at hb2
  rw [hI.out] at hi2
  clear hD hA hB hI hO
  go_wp2_with fail
  refine C1.out.mono ?_
  rintro e W1 ⟨rfl, hb⟩
  have HZ1 := Lib.hid (HZ.out.below hb HZ.out.lt)
  have HM1 := Lib.hid (HM.out.trans (Mods.of_below hb))
  have HC1 := Lib.hid (HC.out.mods (S := No) (Mods.of_below hb) fun _ hk => hk.elim)
  have hs1 := hb.size
  clear hb C1 HZ HM HC
  go_upto_region 2 with fail
  have hrow := Row.new W1 138 #[.bool bD, .bool bA, .bool bB, .bool bI]
  have HS2 := Lib.hid hrow
  have HZ2 := Lib.hid (HZ1.out.alloc (.cells #[.bool bD, .bool bA, .bool bB, .bool bI] 138))
  have HM2 := Lib.hid (HM1.out.alloc (.cells #[.bool bD, .bool bA, .bool bB, .bool bI] 138))
  have HC2 := Lib.hid (HC1.out.alloc (.cells #[.bool bD, .bool bA, .bool bB, .bool bI] 138))
  have hzs : z < W1.heap.size := by omega
  have hs2 := hrow.lt
  clear hrow HZ1 HM1 HC1
  generalize (W1.alloc (.cells #[.bool bD, .bool bA, .bool bB, .bool bI] 138)) = W2 at *
  generalize W1.heap.size = s at *
  go_wp2_with fail
  refine (below_any p regs 9 W2).mono ?_
  rintro e W3 ⟨x, rfl, hx2, hx, hb⟩
  have HS3 := Lib.hid (HS2.out.below hb HS2.out.lt)
  have HZ3 := Lib.hid (HZ2.out.below hb HZ2.out.lt)
  have HM3 := Lib.hid (HM2.out.trans (Mods.of_below hb))
  have HC3 := Lib.hid (HC2.out.mods (S := No) (Mods.of_below hb) fun _ hk => hk.elim)
  have HX3 := Lib.hid hx
  have hx3 := hx.lt
  clear hb hx HS2 HZ2 HM2 HC2
  unfold numC
  go_upto_region 3 with fail
  have hrow := Row.new W3 133 #[.func (.func 45) #[.pointer (some ⟨p, 0, none⟩)] #[], .func (.func 66) #[.pointer (some ⟨p, 0, none⟩)] #[], .func (.func 101) #[] #[.pointer (some ⟨x, 0, none⟩)], .int .i64 9]
  have HK4 := Lib.hid hrow
  have HS4 := Lib.hid (HS3.out.alloc (.cells #[.func (.func 45) #[.pointer (some ⟨p, 0, none⟩)] #[], .func (.func 66) #[.pointer (some ⟨p, 0, none⟩)] #[], .func (.func 101) #[] #[.pointer (some ⟨x, 0, none⟩)], .int .i64 9] 133))
  have HZ4 := Lib.hid (HZ3.out.alloc (.cells #[.func (.func 45) #[.pointer (some ⟨p, 0, none⟩)] #[], .func (.func 66) #[.pointer (some ⟨p, 0, none⟩)] #[], .func (.func 101) #[] #[.pointer (some ⟨x, 0, none⟩)], .int .i64 9] 133))
  have HM4 := Lib.hid (HM3.out.alloc (.cells #[.func (.func 45) #[.pointer (some ⟨p, 0, none⟩)] #[], .func (.func 66) #[.pointer (some ⟨p, 0, none⟩)] #[], .func (.func 101) #[] #[.pointer (some ⟨x, 0, none⟩)], .int .i64 9] 133))
  have HC4 := Lib.hid (HC3.out.alloc (.cells #[.func (.func 45) #[.pointer (some ⟨p, 0, none⟩)] #[], .func (.func 66) #[.pointer (some ⟨p, 0, none⟩)] #[], .func (.func 101) #[] #[.pointer (some ⟨x, 0, none⟩)], .int .i64 9] 133))
  have HX4 := Lib.hid (HX3.out.alloc (.cells #[.func (.func 45) #[.pointer (some ⟨p, 0, none⟩)] #[], .func (.func 66) #[.pointer (some ⟨p, 0, none⟩)] #[], .func (.func 101) #[] #[.pointer (some ⟨x, 0, none⟩)], .int .i64 9] 133))
  have hs4 := hrow.lt
  clear hrow HS3 HZ3 HM3 HC3 HX3
  generalize (W3.alloc (.cells #[.func (.func 45) #[.pointer (some ⟨p, 0, none⟩)] #[], .func (.func 66) #[.pointer (some ⟨p, 0, none⟩)] #[], .func (.func 101) #[] #[.pointer (some ⟨x, 0, none⟩)], .int .i64 9] 133)) = W4 at *
  generalize W3.heap.size = k at *
  go_upto_region 4 with fail
  have hrow := Row.new W4 79 #[.int .i64 op, .int .i64 0, .int .i64 0, .int .i64 0, .int .i64 0]
  have HG : Hid (GFS w lo p l A c t regs bD bA bB bI z s k x W4.heap.size op 0 0 0 0 (W4.alloc (.cells #[.int .i64 op, .int .i64 0, .int .i64 0, .int .i64 0, .int .i64 0] 79))) :=
    ⟨HM4.out.alloc _, HC4.out.alloc _, HZ4.out.alloc _, HS4.out.alloc _, HK4.out.alloc _, HX4.out.alloc _, hrow, by omega, by omega, by omega, by omega, by omega, by omega⟩
  clear hrow HS4 HZ4 HM4 HC4 HX4 HK4
  generalize (W4.alloc (.cells #[.int .i64 op, .int .i64 0, .int .i64 0, .int .i64 0, .int .i64 0] 79)) = W5 at *
  generalize W4.heap.size = j at *
  have C2 := Lib.hid (fld_any HG.out.ce bD x regs 9 HG.out.x_ (by have := HG.out.pw; have := HG.out.wz; have := HG.out.zs; have := HG.out.sx; omega) (by decide) (by have := hR.out; omega))
  rw [hd2.out] at C2
  have s0 := HG.out.s_.cell 0; have s1 := HG.out.s_.cell 1; have s2 := HG.out.s_.cell 2; have s3 := HG.out.s_.cell 3
  simp only [List.getElem?_toArray, List.getElem?_cons_zero, List.getElem?_cons_succ] at s0 s1 s2 s3
  have hk := HG.out.k_
  unfold numC at hk
  have k0 := hk.cell 0; have k1 := hk.cell 1; have k2 := hk.cell 2; have k3 := hk.cell 3
  simp only [List.getElem?_toArray, List.getElem?_cons_zero, List.getElem?_cons_succ] at k0 k1 k2 k3
  clear hk
  go_wp2_with fail
  refine C2.out.mono ?_
  rintro e W5r ⟨rfl, hm, hc⟩
  have HGr := Lib.hid (HG.out.next hm hc)
  clear hm hc C2 s0 s1 s2 s3 k0 k1 k2 k3 HG
  have j0 := HGr.out.j_.cell 0; have j1 := HGr.out.j_.cell 1; have j2 := HGr.out.j_.cell 2; have j3 := HGr.out.j_.cell 3; have j4 := HGr.out.j_.cell 4
  have jf0 := HGr.out.j_.frozen 0; have jf1 := HGr.out.j_.frozen 1; have jf2 := HGr.out.j_.frozen 2; have jf3 := HGr.out.j_.frozen 3; have jf4 := HGr.out.j_.frozen 4
  simp only [List.getElem?_toArray, List.getElem?_cons_zero, List.getElem?_cons_succ] at j0 j1 j2 j3 j4
  go_upto_region 5 with fail
  clear j0 j1 j2 j3 j4 jf0 jf1 jf2 jf3 jf4
  have HG : Hid (GFS w lo p l A c td.2 regs bD bA bB bI z s k x j op td.1 0 0 0 (W5r.setCell ⟨j, 1, none⟩ (.int .i64 td.1))) := HGr.out.put 1 _ rfl
  generalize (W5r.setCell ⟨j, 1, none⟩ (.int .i64 td.1)) = W6 at *
  clear HGr
  have C2 := Lib.hid (fld_any HG.out.ce bA x regs 9 HG.out.x_ (by have := HG.out.pw; have := HG.out.wz; have := HG.out.zs; have := HG.out.sx; omega) (by decide) (by have := hR.out; omega))
  rw [ha2.out] at C2
  have s0 := HG.out.s_.cell 0; have s1 := HG.out.s_.cell 1; have s2 := HG.out.s_.cell 2; have s3 := HG.out.s_.cell 3
  simp only [List.getElem?_toArray, List.getElem?_cons_zero, List.getElem?_cons_succ] at s0 s1 s2 s3
  have hk := HG.out.k_
  unfold numC at hk
  have k0 := hk.cell 0; have k1 := hk.cell 1; have k2 := hk.cell 2; have k3 := hk.cell 3
  simp only [List.getElem?_toArray, List.getElem?_cons_zero, List.getElem?_cons_succ] at k0 k1 k2 k3
  clear hk
  go_wp2_with fail
  refine C2.out.mono ?_
  rintro e W6r ⟨rfl, hm, hc⟩
  have HGr := Lib.hid (HG.out.next hm hc)
  clear hm hc C2 s0 s1 s2 s3 k0 k1 k2 k3 HG
  have j0 := HGr.out.j_.cell 0; have j1 := HGr.out.j_.cell 1; have j2 := HGr.out.j_.cell 2; have j3 := HGr.out.j_.cell 3; have j4 := HGr.out.j_.cell 4
  have jf0 := HGr.out.j_.frozen 0; have jf1 := HGr.out.j_.frozen 1; have jf2 := HGr.out.j_.frozen 2; have jf3 := HGr.out.j_.frozen 3; have jf4 := HGr.out.j_.frozen 4
  simp only [List.getElem?_toArray, List.getElem?_cons_zero, List.getElem?_cons_succ] at j0 j1 j2 j3 j4
  go_upto_region 6 with fail
  clear j0 j1 j2 j3 j4 jf0 jf1 jf2 jf3 jf4
  have HG : Hid (GFS w lo p l A c ta.2 regs bD bA bB bI z s k x j op td.1 ta.1 0 0 (W6r.setCell ⟨j, 2, none⟩ (.int .i64 ta.1))) := HGr.out.put 2 _ rfl
  generalize (W6r.setCell ⟨j, 2, none⟩ (.int .i64 ta.1)) = W7 at *
  clear HGr
  have C2 := Lib.hid (fld_any HG.out.ce bB x regs 9 HG.out.x_ (by have := HG.out.pw; have := HG.out.wz; have := HG.out.zs; have := HG.out.sx; omega) (by decide) (by have := hR.out; omega))
  rw [hb2.out] at C2
  have s0 := HG.out.s_.cell 0; have s1 := HG.out.s_.cell 1; have s2 := HG.out.s_.cell 2; have s3 := HG.out.s_.cell 3
  simp only [List.getElem?_toArray, List.getElem?_cons_zero, List.getElem?_cons_succ] at s0 s1 s2 s3
  have hk := HG.out.k_
  unfold numC at hk
  have k0 := hk.cell 0; have k1 := hk.cell 1; have k2 := hk.cell 2; have k3 := hk.cell 3
  simp only [List.getElem?_toArray, List.getElem?_cons_zero, List.getElem?_cons_succ] at k0 k1 k2 k3
  clear hk
  go_wp2_with fail
  refine C2.out.mono ?_
  rintro e W7r ⟨rfl, hm, hc⟩
  have HGr := Lib.hid (HG.out.next hm hc)
  clear hm hc C2 s0 s1 s2 s3 k0 k1 k2 k3 HG
  have j0 := HGr.out.j_.cell 0; have j1 := HGr.out.j_.cell 1; have j2 := HGr.out.j_.cell 2; have j3 := HGr.out.j_.cell 3; have j4 := HGr.out.j_.cell 4
  have jf0 := HGr.out.j_.frozen 0; have jf1 := HGr.out.j_.frozen 1; have jf2 := HGr.out.j_.frozen 2; have jf3 := HGr.out.j_.frozen 3; have jf4 := HGr.out.j_.frozen 4
  simp only [List.getElem?_toArray, List.getElem?_cons_zero, List.getElem?_cons_succ] at j0 j1 j2 j3 j4
  go_upto_region 7 with fail
  clear j0 j1 j2 j3 j4 jf0 jf1 jf2 jf3 jf4
  have HG : Hid (GFS w lo p l A c tb.2 regs bD bA bB bI z s k x j op td.1 ta.1 tb.1 0 (W7r.setCell ⟨j, 3, none⟩ (.int .i64 tb.1))) := HGr.out.put 3 _ rfl
  generalize (W7r.setCell ⟨j, 3, none⟩ (.int .i64 tb.1)) = W8 at *
  clear HGr
  have C2 := Lib.hid (imm_any HG.out.ce bI)
  rw [hi2.out] at C2
  have s0 := HG.out.s_.cell 0; have s1 := HG.out.s_.cell 1; have s2 := HG.out.s_.cell 2; have s3 := HG.out.s_.cell 3
  simp only [List.getElem?_toArray, List.getElem?_cons_zero, List.getElem?_cons_succ] at s0 s1 s2 s3
  go_wp2_with fail
  refine C2.out.mono ?_
  rintro e W8r ⟨rfl, hm, hc⟩
  have HGr := Lib.hid (HG.out.next hm hc)
  clear hm hc C2 s0 s1 s2 s3  HG
  have j0 := HGr.out.j_.cell 0; have j1 := HGr.out.j_.cell 1; have j2 := HGr.out.j_.cell 2; have j3 := HGr.out.j_.cell 3; have j4 := HGr.out.j_.cell 4
  have jf0 := HGr.out.j_.frozen 0; have jf1 := HGr.out.j_.frozen 1; have jf2 := HGr.out.j_.frozen 2; have jf3 := HGr.out.j_.frozen 3; have jf4 := HGr.out.j_.frozen 4
  simp only [List.getElem?_toArray, List.getElem?_cons_zero, List.getElem?_cons_succ] at j0 j1 j2 j3 j4
  go_upto_region 8 with fail
  clear j0 j1 j2 j3 j4 jf0 jf1 jf2 jf3 jf4
  have HG : Hid (GFS w lo p l A c ti.2 regs bD bA bB bI z s k x j op td.1 ta.1 tb.1 ti.1 (W8r.setCell ⟨j, 4, none⟩ (.int .i64 ti.1))) := HGr.out.put 4 _ rfl
  generalize (W8r.setCell ⟨j, 4, none⟩ (.int .i64 ti.1)) = W9 at *
  clear HGr
  have j0 := HG.out.j_.cell 0; have j1 := HG.out.j_.cell 1; have j2 := HG.out.j_.cell 2; have j3 := HG.out.j_.cell 3; have j4 := HG.out.j_.cell 4
  have jf0 := HG.out.j_.frozen 0; have jf1 := HG.out.j_.frozen 1; have jf2 := HG.out.j_.frozen 2; have jf3 := HG.out.j_.frozen 3; have jf4 := HG.out.j_.frozen 4
  simp only [List.getElem?_toArray, List.getElem?_cons_zero, List.getElem?_cons_succ] at j0 j1 j2 j3 j4
  have z0 := HG.out.z_.cell 0; have z1 := HG.out.z_.cell 1; have z2 := HG.out.z_.cell 2; have z3 := HG.out.z_.cell 3; have z4 := HG.out.z_.cell 4
  have zf0 := HG.out.z_.frozen 0; have zf1 := HG.out.z_.frozen 1; have zf2 := HG.out.z_.frozen 2; have zf3 := HG.out.z_.frozen 3; have zf4 := HG.out.z_.frozen 4
  simp only [List.getElem?_toArray, List.getElem?_cons_zero, List.getElem?_cons_succ] at z0 z1 z2 z3 z4
  go_wp2
  (try simp only [Exit.inBlock, Exit.then])
  have hmz := mods5i W9 z (.int .i64 op) (.int .i64 td.1) (.int .i64 ta.1) (.int .i64 tb.1) (.int .i64 ti.1)
  refine bodyPost_ret (v := .agg #[.int .i64 op, .int .i64 td.1, .int .i64 ta.1, .int .i64 tb.1, .int .i64 ti.1]) ?_ rfl ⟨rfl, HG.out.md.then hmz fun q hq => .inr (by have := HG.out.wz; unfold Is at hq; omega), HG.out.ce.mods hmz fun q hq => .inr (by have := HG.out.wz; have := HG.out.pw; unfold Is at hq; omega)⟩
  exact results_cell_row rfl _ _ z 79 #[.int .i64 op, .int .i64 td.1, .int .i64 ta.1, .int .i64 tb.1, .int .i64 ti.1] (0, 0) _ rfl (HG.out.z_.put5i _ _ _ _ _) Tryz.underlying79 rfl (by kernel_rfl)

end Go.Proofs.YtkapmfopfddmbaaGreat

/-
  The program of layer 17: getMove (made by wip/lab/genicpgd.py).
-/
namespace Go.Proofs.YtkapmfopfddmbaaGreat
open Go.RowKit
set_option linter.unusedVariables false
set_option linter.unusedSimpArgs false

/-- What getMove carries: the result's block z, the field k with its bounds at x and y, the instruction j. -/
structure GMS (w : World) (lo p : Nat) (l : List Nat) (A : Option Addr) (c : Nat) (t : Ip) (r n : Int) (z k x y j : Nat) (v5 v6 : Int) (W : World) : Prop where
  md : Mods (Is p) w W
  ce : CE lo p l A c t W
  z_ : Row W z 84 #[.int .i64 0, .int .i64 0, .int .i64 0, .int .i64 0, .int .i64 0, .int .i64 0, .int .i64 0]
  k_ : Row W k 133 (numC p 103 #[.pointer (some ⟨x, 0, none⟩), .pointer (some ⟨y, 0, none⟩)] 10)
  x_ : Row W x 3 #[.int .i64 r]
  y_ : Row W y 3 #[.int .i64 n]
  j_ : Row W j 84 #[.int .i64 18, .int .i64 0, .int .i64 0, .int .i64 0, .int .i64 0, .int .i64 v5, .int .i64 v6]
  pw : p < w.heap.size
  wz : w.heap.size ≤ z
  zx : z < x
  zy : z < y
  xk : x < k
  yk : y < k
  kj : k < j

section
variable {w : World} {lo p : Nat} {l : List Nat} {A : Option Addr} {c : Nat} {t t' : Ip} {r n : Int} {z k x y j : Nat} {v5 v6 : Int} {W W' : World}

theorem GMS.next (h : GMS w lo p l A c t r n z k x y j v5 v6 W) (hm : Mods (Is p) W W') (hc : CE lo p l A c t' W') : GMS w lo p l A c t' r n z k x y j v5 v6 W' := by
  obtain ⟨md, ce, z_, k_, x_, y_, j_, pw, wz, zx, zy, xk, yk, kj⟩ := h
  exact ⟨md.trans hm, hc, z_.mods hm (fun hh => by unfold Is at hh; omega), k_.mods hm (fun hh => by unfold Is at hh; omega), x_.mods hm (fun hh => by unfold Is at hh; omega), y_.mods hm (fun hh => by unfold Is at hh; omega), j_.mods hm (fun hh => by unfold Is at hh; omega), pw, wz, zx, zy, xk, yk, kj⟩

theorem GMS.put (h : GMS w lo p l A c t r n z k x y j v5 v6 W) (i : Nat) (u : Value) {u5 u6 : Int} (e : (#[.int .i64 18, .int .i64 0, .int .i64 0, .int .i64 0, .int .i64 0, .int .i64 v5, .int .i64 v6] : Array Value).setIfInBounds i u = #[.int .i64 18, .int .i64 0, .int .i64 0, .int .i64 0, .int .i64 0, .int .i64 u5, .int .i64 u6]) : GMS w lo p l A c t r n z k x y j u5 u6 (W.setCell ⟨j, i, none⟩ u) := by
  obtain ⟨md, ce, z_, k_, x_, y_, j_, pw, wz, zx, zy, xk, yk, kj⟩ := h
  have hp := j_.put i u
  rw [e] at hp
  have hj : Mods (Is j) W (W.setCell ⟨j, i, none⟩ u) := (Mods.refl _ _).put i u
  exact ⟨md.then hj fun q hq => .inr (by unfold Is at hq; omega), ce.mods hj fun q hq => .inr (by unfold Is at hq; omega),
    z_.far (q := ⟨j, i, none⟩) (by show z ≠ j; omega) u, k_.far (q := ⟨j, i, none⟩) (by show k ≠ j; omega) u, x_.far (q := ⟨j, i, none⟩) (by show x ≠ j; omega) u, y_.far (q := ⟨j, i, none⟩) (by show y ≠ j; omega) u, hp, pw, wz, zx, zy, xk, yk, kj⟩

end

set_option maxRecDepth 100000 in
set_option maxHeartbeats 4000000 in
theorem getmove_any {w : World} {lo p : Nat} {l : List Nat} {A : Option Addr} {c : Nat} {t : Ip} (h : CE lo p l A c t w) (r n : Int) (hr : r ≤ 1000000000) (hn : n ≤ 1000000000) {tx ty : Int × Ip} (hx : locE r n t = tx) (hy : locE r n tx.2 = ty) :
    Calls Tryz.prog 86 #[.pointer (some ⟨p, 0, none⟩), .int .i64 r, .int .i64 n] w
      fun e w' => e = .returned (.agg #[.int .i64 18, .int .i64 0, .int .i64 0, .int .i64 0, .int .i64 0, .int .i64 tx.1, .int .i64 ty.1]) ∧ Mods (Is p) w w' ∧ CE lo p l A c (twoE true tx.1 ty.1 ty.2) w' := by
  have hmf : ∀ (fn : Fn) (first cap : Array Value) (w : World), (Instr.makeFunc fn first cap).run Tryz.prog w = .ok (.func fn first cap) w := fun _ _ _ _ => rfl
  have rx : 0 ≤ tx.1 ∧ tx.1 < 4611686018427387904 := by rw [← hx]; exact locE_rng
  have ry : 0 ≤ ty.1 ∧ ty.1 < 4611686018427387904 := by rw [← hy]; exact locE_rng
  obtain ⟨vx, sx⟩ := tx
  obtain ⟨vy, sy⟩ := ty
  dsimp only at rx ry hy ⊢
  have HX := Lib.hid hx
  have HY := Lib.hid hy
  have HR := Lib.hid hr
  have HN := Lib.hid hn
  have hlt := h.lt
  have hrow := Row.new w 84 #[.int .i64 0, .int .i64 0, .int .i64 0, .int .i64 0, .int .i64 0, .int .i64 0, .int .i64 0]
  have hmd := (Mods.refl (Is p) w).alloc (.cells #[.int .i64 0, .int .i64 0, .int .i64 0, .int .i64 0, .int .i64 0, .int .i64 0, .int .i64 0] 84)
  have hce := h.alloc (.cells #[.int .i64 0, .int .i64 0, .int .i64 0, .int .i64 0, .int .i64 0, .int .i64 0, .int .i64 0] 84)
  have hzl : w.heap.size < (w.alloc (.cells #[.int .i64 0, .int .i64 0, .int .i64 0, .int .i64 0, .int .i64 0, .int .i64 0, .int .i64 0] 84)).heap.size := hrow.lt
  have HZ := Lib.hid hrow
  have HM := Lib.hid hmd
  have HC := Lib.hid hce
  clear hrow hmd hce h hr hn hx hy
  go_enter Tryz.func86, Tryz.ntmps86
  go_upto_region 1 with fail
  generalize (w.alloc (.cells #[.int .i64 0, .int .i64 0, .int .i64 0, .int .i64 0, .int .i64 0, .int .i64 0, .int .i64 0] 84)) = W0 at *
  generalize hz : w.heap.size = z at *
  go_wp2_with fail
  refine (within_any p r n W0).mono ?_
  rintro e W3 ⟨x, y, rfl, hx2, hy2, hx, hy, hb⟩
  have HZ3 := Lib.hid (HZ.out.below hb HZ.out.lt)
  have HM3 := Lib.hid (HM.out.trans (Mods.of_below hb))
  have HC3 := Lib.hid (HC.out.mods (S := No) (Mods.of_below hb) fun _ hk => hk.elim)
  have HX3 := Lib.hid hx
  have HY3 := Lib.hid hy
  have hx3 := hx.lt
  have hy3 := hy.lt
  clear hb hx hy HZ HM HC
  unfold numC
  go_upto_region 2 with fail
  have hrow := Row.new W3 133 #[.func (.func 45) #[.pointer (some ⟨p, 0, none⟩)] #[], .func (.func 66) #[.pointer (some ⟨p, 0, none⟩)] #[], .func (.func 103) #[] #[.pointer (some ⟨x, 0, none⟩), .pointer (some ⟨y, 0, none⟩)], .int .i64 10]
  have HK4 := Lib.hid hrow
  have HZ4 := Lib.hid (HZ3.out.alloc (.cells #[.func (.func 45) #[.pointer (some ⟨p, 0, none⟩)] #[], .func (.func 66) #[.pointer (some ⟨p, 0, none⟩)] #[], .func (.func 103) #[] #[.pointer (some ⟨x, 0, none⟩), .pointer (some ⟨y, 0, none⟩)], .int .i64 10] 133))
  have HM4 := Lib.hid (HM3.out.alloc (.cells #[.func (.func 45) #[.pointer (some ⟨p, 0, none⟩)] #[], .func (.func 66) #[.pointer (some ⟨p, 0, none⟩)] #[], .func (.func 103) #[] #[.pointer (some ⟨x, 0, none⟩), .pointer (some ⟨y, 0, none⟩)], .int .i64 10] 133))
  have HC4 := Lib.hid (HC3.out.alloc (.cells #[.func (.func 45) #[.pointer (some ⟨p, 0, none⟩)] #[], .func (.func 66) #[.pointer (some ⟨p, 0, none⟩)] #[], .func (.func 103) #[] #[.pointer (some ⟨x, 0, none⟩), .pointer (some ⟨y, 0, none⟩)], .int .i64 10] 133))
  have HX4 := Lib.hid (HX3.out.alloc (.cells #[.func (.func 45) #[.pointer (some ⟨p, 0, none⟩)] #[], .func (.func 66) #[.pointer (some ⟨p, 0, none⟩)] #[], .func (.func 103) #[] #[.pointer (some ⟨x, 0, none⟩), .pointer (some ⟨y, 0, none⟩)], .int .i64 10] 133))
  have HY4 := Lib.hid (HY3.out.alloc (.cells #[.func (.func 45) #[.pointer (some ⟨p, 0, none⟩)] #[], .func (.func 66) #[.pointer (some ⟨p, 0, none⟩)] #[], .func (.func 103) #[] #[.pointer (some ⟨x, 0, none⟩), .pointer (some ⟨y, 0, none⟩)], .int .i64 10] 133))
  have hs4 := hrow.lt
  clear hrow HZ3 HM3 HC3 HX3 HY3
  generalize (W3.alloc (.cells #[.func (.func 45) #[.pointer (some ⟨p, 0, none⟩)] #[], .func (.func 66) #[.pointer (some ⟨p, 0, none⟩)] #[], .func (.func 103) #[] #[.pointer (some ⟨x, 0, none⟩), .pointer (some ⟨y, 0, none⟩)], .int .i64 10] 133)) = W4 at *
  generalize W3.heap.size = k at *
  go_upto_region 3 with fail
  have hrow := Row.new W4 84 #[.int .i64 18, .int .i64 0, .int .i64 0, .int .i64 0, .int .i64 0, .int .i64 0, .int .i64 0]
  have HG : Hid (GMS w lo p l A c t r n z k x y W4.heap.size 0 0 (W4.alloc (.cells #[.int .i64 18, .int .i64 0, .int .i64 0, .int .i64 0, .int .i64 0, .int .i64 0, .int .i64 0] 84))) :=
    ⟨HM4.out.alloc _, HC4.out.alloc _, HZ4.out.alloc _, HK4.out.alloc _, HX4.out.alloc _, HY4.out.alloc _, hrow, by omega, by omega, by omega, by omega, by omega, by omega, by omega⟩
  clear hrow HZ4 HM4 HC4 HX4 HK4 HY4
  generalize (W4.alloc (.cells #[.int .i64 18, .int .i64 0, .int .i64 0, .int .i64 0, .int .i64 0, .int .i64 0, .int .i64 0] 84)) = W5 at *
  generalize W4.heap.size = j at *
  have C2 := Lib.hid (place_any HG.out.ce x y r n HG.out.x_ HG.out.y_ (by have := HG.out.pw; have := HG.out.wz; have := HG.out.zx; omega) (by have := HG.out.pw; have := HG.out.wz; have := HG.out.zy; omega) HR.out HN.out)
  rw [HX.out] at C2
  dsimp only at C2
  have hk := HG.out.k_
  unfold numC at hk
  have k0 := hk.cell 0; have k1 := hk.cell 1; have k2 := hk.cell 2; have k3 := hk.cell 3
  simp only [List.getElem?_toArray, List.getElem?_cons_zero, List.getElem?_cons_succ] at k0 k1 k2 k3
  clear hk
  go_wp2_with fail
  refine C2.out.mono ?_
  rintro e W5r ⟨rfl, hm, hc⟩
  have HGr := Lib.hid (HG.out.next hm hc)
  clear hm hc C2 k0 k1 k2 k3 HG
  have j0 := HGr.out.j_.cell 0; have j1 := HGr.out.j_.cell 1; have j2 := HGr.out.j_.cell 2; have j3 := HGr.out.j_.cell 3; have j4 := HGr.out.j_.cell 4; have j5 := HGr.out.j_.cell 5; have j6 := HGr.out.j_.cell 6
  have jf0 := HGr.out.j_.frozen 0; have jf1 := HGr.out.j_.frozen 1; have jf2 := HGr.out.j_.frozen 2; have jf3 := HGr.out.j_.frozen 3; have jf4 := HGr.out.j_.frozen 4; have jf5 := HGr.out.j_.frozen 5; have jf6 := HGr.out.j_.frozen 6
  simp only [List.getElem?_toArray, List.getElem?_cons_zero, List.getElem?_cons_succ] at j0 j1 j2 j3 j4 j5 j6
  go_upto_region 4 with fail
  clear j0 j1 j2 j3 j4 j5 j6 jf0 jf1 jf2 jf3 jf4 jf5 jf6
  have HG : Hid (GMS w lo p l A c sx r n z k x y j vx 0 (W5r.setCell ⟨j, 5, none⟩ (.int .i64 vx))) := HGr.out.put 5 _ rfl
  generalize (W5r.setCell ⟨j, 5, none⟩ (.int .i64 vx)) = W6 at *
  clear HGr
  have C2 := Lib.hid (place_any HG.out.ce x y r n HG.out.x_ HG.out.y_ (by have := HG.out.pw; have := HG.out.wz; have := HG.out.zx; omega) (by have := HG.out.pw; have := HG.out.wz; have := HG.out.zy; omega) HR.out HN.out)
  rw [HY.out] at C2
  dsimp only at C2
  have hk := HG.out.k_
  unfold numC at hk
  have k0 := hk.cell 0; have k1 := hk.cell 1; have k2 := hk.cell 2; have k3 := hk.cell 3
  simp only [List.getElem?_toArray, List.getElem?_cons_zero, List.getElem?_cons_succ] at k0 k1 k2 k3
  clear hk
  go_wp2_with fail
  refine C2.out.mono ?_
  rintro e W6r ⟨rfl, hm, hc⟩
  have HGr := Lib.hid (HG.out.next hm hc)
  clear hm hc C2 k0 k1 k2 k3 HG
  have j0 := HGr.out.j_.cell 0; have j1 := HGr.out.j_.cell 1; have j2 := HGr.out.j_.cell 2; have j3 := HGr.out.j_.cell 3; have j4 := HGr.out.j_.cell 4; have j5 := HGr.out.j_.cell 5; have j6 := HGr.out.j_.cell 6
  have jf0 := HGr.out.j_.frozen 0; have jf1 := HGr.out.j_.frozen 1; have jf2 := HGr.out.j_.frozen 2; have jf3 := HGr.out.j_.frozen 3; have jf4 := HGr.out.j_.frozen 4; have jf5 := HGr.out.j_.frozen 5; have jf6 := HGr.out.j_.frozen 6
  simp only [List.getElem?_toArray, List.getElem?_cons_zero, List.getElem?_cons_succ] at j0 j1 j2 j3 j4 j5 j6
  go_upto_region 5 with fail
  clear j0 j1 j2 j3 j4 j5 j6 jf0 jf1 jf2 jf3 jf4 jf5 jf6
  have HG : Hid (GMS w lo p l A c sy r n z k x y j vx vy (W6r.setCell ⟨j, 6, none⟩ (.int .i64 vy))) := HGr.out.put 6 _ rfl
  generalize (W6r.setCell ⟨j, 6, none⟩ (.int .i64 vy)) = W7 at *
  clear HGr
  have hj5 := HG.out.j_.cell 5
  have hj6 := HG.out.j_.cell 6
  simp only [List.getElem?_toArray, List.getElem?_cons_zero, List.getElem?_cons_succ] at hj5 hj6
  by_cases h1 : vx % 2 = 1
  · have D1 : Hid (decide (vx % 2 = 1) = true) := decide_eq_true h1
    by_cases h2 : vy % 2 = 1
    · have D2 : Hid (decide (vy % 2 = 1) = true) := decide_eq_true h2
      have HT : Hid (twoE true vx vy sy = failT 10 sy) := by
        show _ = _
        unfold twoE failT
        by_cases h0 : sy.err = 0
        · rw [if_pos ⟨rfl, h0, h1, h2⟩, if_pos h0]
        · rw [if_neg fun hh => h0 hh.2.1, if_neg h0]
      clear h1 h2
      have C3 := Lib.hid (locslot_any vx true W7 rx.1 (by omega) D1.out)
      have C4 := Lib.hid (locslot_any vy true W7 ry.1 (by omega) D2.out)
      have C5 := Lib.hid (fail_ce HG.out.ce 10 (by decide))
      go_wp2_with fail
      refine C3.out.mono ?_
      rintro e W8 ⟨rfl, rfl⟩
      go_wp2_with fail
      refine C4.out.mono ?_
      rintro e W8 ⟨rfl, rfl⟩
      go_wp2_with fail
      refine C5.out.mono ?_
      rintro e W8 ⟨rfl, hm, hc⟩
      have HGr := Lib.hid (HG.out.next hm hc)
      clear hm hc HG hj5 hj6 C3 C4 C5
      have HG := HGr
      clear HGr
      have j0 := HG.out.j_.cell 0; have j1 := HG.out.j_.cell 1; have j2 := HG.out.j_.cell 2; have j3 := HG.out.j_.cell 3; have j4 := HG.out.j_.cell 4; have j5 := HG.out.j_.cell 5; have j6 := HG.out.j_.cell 6
      have jf0 := HG.out.j_.frozen 0; have jf1 := HG.out.j_.frozen 1; have jf2 := HG.out.j_.frozen 2; have jf3 := HG.out.j_.frozen 3; have jf4 := HG.out.j_.frozen 4; have jf5 := HG.out.j_.frozen 5; have jf6 := HG.out.j_.frozen 6
      simp only [List.getElem?_toArray, List.getElem?_cons_zero, List.getElem?_cons_succ] at j0 j1 j2 j3 j4 j5 j6
      have z0 := HG.out.z_.cell 0; have z1 := HG.out.z_.cell 1; have z2 := HG.out.z_.cell 2; have z3 := HG.out.z_.cell 3; have z4 := HG.out.z_.cell 4; have z5 := HG.out.z_.cell 5; have z6 := HG.out.z_.cell 6
      have zf0 := HG.out.z_.frozen 0; have zf1 := HG.out.z_.frozen 1; have zf2 := HG.out.z_.frozen 2; have zf3 := HG.out.z_.frozen 3; have zf4 := HG.out.z_.frozen 4; have zf5 := HG.out.z_.frozen 5; have zf6 := HG.out.z_.frozen 6
      simp only [List.getElem?_toArray, List.getElem?_cons_zero, List.getElem?_cons_succ] at z0 z1 z2 z3 z4 z5 z6
      go_wp2
      (try simp only [Exit.inBlock, Exit.then])
      have hmz := mods7i W8 z (.int .i64 18) (.int .i64 0) (.int .i64 0) (.int .i64 0) (.int .i64 0) (.int .i64 vx) (.int .i64 vy)
      refine bodyPost_ret (v := .agg #[.int .i64 18, .int .i64 0, .int .i64 0, .int .i64 0, .int .i64 0, .int .i64 vx, .int .i64 vy]) ?_ rfl ⟨rfl, HG.out.md.then hmz fun q hq => .inr (by have := HG.out.wz; unfold Is at hq; omega), by rw [HT.out]; exact HG.out.ce.mods hmz fun q hq => .inr (by have := HG.out.wz; have := HG.out.pw; unfold Is at hq; omega)⟩
      exact results_cell_row rfl _ _ z 84 #[.int .i64 18, .int .i64 0, .int .i64 0, .int .i64 0, .int .i64 0, .int .i64 vx, .int .i64 vy] (0, 0) _ rfl (HG.out.z_.put7i _ _ _ _ _ _ _) Tryz.underlying84 rfl (by kernel_rfl)
    · have D2 : Hid (decide (vy % 2 = 1) = false) := decide_eq_false h2
      have HT : Hid (twoE true vx vy sy = sy) := if_neg fun hh => h2 hh.2.2.2
      clear h1 h2
      have C3 := Lib.hid (locslot_any vx true W7 rx.1 (by omega) D1.out)
      have C4 := Lib.hid (locslot_any vy false W7 ry.1 (by omega) D2.out)
      go_wp2_with fail
      refine C3.out.mono ?_
      rintro e W8 ⟨rfl, rfl⟩
      go_wp2_with fail
      refine C4.out.mono ?_
      rintro e W8 ⟨rfl, rfl⟩
      clear C3 C4 hj5 hj6
      have j0 := HG.out.j_.cell 0; have j1 := HG.out.j_.cell 1; have j2 := HG.out.j_.cell 2; have j3 := HG.out.j_.cell 3; have j4 := HG.out.j_.cell 4; have j5 := HG.out.j_.cell 5; have j6 := HG.out.j_.cell 6
      have jf0 := HG.out.j_.frozen 0; have jf1 := HG.out.j_.frozen 1; have jf2 := HG.out.j_.frozen 2; have jf3 := HG.out.j_.frozen 3; have jf4 := HG.out.j_.frozen 4; have jf5 := HG.out.j_.frozen 5; have jf6 := HG.out.j_.frozen 6
      simp only [List.getElem?_toArray, List.getElem?_cons_zero, List.getElem?_cons_succ] at j0 j1 j2 j3 j4 j5 j6
      have z0 := HG.out.z_.cell 0; have z1 := HG.out.z_.cell 1; have z2 := HG.out.z_.cell 2; have z3 := HG.out.z_.cell 3; have z4 := HG.out.z_.cell 4; have z5 := HG.out.z_.cell 5; have z6 := HG.out.z_.cell 6
      have zf0 := HG.out.z_.frozen 0; have zf1 := HG.out.z_.frozen 1; have zf2 := HG.out.z_.frozen 2; have zf3 := HG.out.z_.frozen 3; have zf4 := HG.out.z_.frozen 4; have zf5 := HG.out.z_.frozen 5; have zf6 := HG.out.z_.frozen 6
      simp only [List.getElem?_toArray, List.getElem?_cons_zero, List.getElem?_cons_succ] at z0 z1 z2 z3 z4 z5 z6
      go_wp2
      (try simp only [Exit.inBlock, Exit.then])
      have hmz := mods7i W7 z (.int .i64 18) (.int .i64 0) (.int .i64 0) (.int .i64 0) (.int .i64 0) (.int .i64 vx) (.int .i64 vy)
      refine bodyPost_ret (v := .agg #[.int .i64 18, .int .i64 0, .int .i64 0, .int .i64 0, .int .i64 0, .int .i64 vx, .int .i64 vy]) ?_ rfl ⟨rfl, HG.out.md.then hmz fun q hq => .inr (by have := HG.out.wz; unfold Is at hq; omega), by rw [HT.out]; exact HG.out.ce.mods hmz fun q hq => .inr (by have := HG.out.wz; have := HG.out.pw; unfold Is at hq; omega)⟩
      exact results_cell_row rfl _ _ z 84 #[.int .i64 18, .int .i64 0, .int .i64 0, .int .i64 0, .int .i64 0, .int .i64 vx, .int .i64 vy] (0, 0) _ rfl (HG.out.z_.put7i _ _ _ _ _ _ _) Tryz.underlying84 rfl (by kernel_rfl)
  · have D1 : Hid (decide (vx % 2 = 1) = false) := decide_eq_false h1
    have HT : Hid (twoE true vx vy sy = sy) := if_neg fun hh => h1 hh.2.2.1
    clear h1
    have C3 := Lib.hid (locslot_any vx false W7 rx.1 (by omega) D1.out)
    go_wp2_with fail
    refine C3.out.mono ?_
    rintro e W8 ⟨rfl, rfl⟩
    clear C3 hj5 hj6
    have j0 := HG.out.j_.cell 0; have j1 := HG.out.j_.cell 1; have j2 := HG.out.j_.cell 2; have j3 := HG.out.j_.cell 3; have j4 := HG.out.j_.cell 4; have j5 := HG.out.j_.cell 5; have j6 := HG.out.j_.cell 6
    have jf0 := HG.out.j_.frozen 0; have jf1 := HG.out.j_.frozen 1; have jf2 := HG.out.j_.frozen 2; have jf3 := HG.out.j_.frozen 3; have jf4 := HG.out.j_.frozen 4; have jf5 := HG.out.j_.frozen 5; have jf6 := HG.out.j_.frozen 6
    simp only [List.getElem?_toArray, List.getElem?_cons_zero, List.getElem?_cons_succ] at j0 j1 j2 j3 j4 j5 j6
    have z0 := HG.out.z_.cell 0; have z1 := HG.out.z_.cell 1; have z2 := HG.out.z_.cell 2; have z3 := HG.out.z_.cell 3; have z4 := HG.out.z_.cell 4; have z5 := HG.out.z_.cell 5; have z6 := HG.out.z_.cell 6
    have zf0 := HG.out.z_.frozen 0; have zf1 := HG.out.z_.frozen 1; have zf2 := HG.out.z_.frozen 2; have zf3 := HG.out.z_.frozen 3; have zf4 := HG.out.z_.frozen 4; have zf5 := HG.out.z_.frozen 5; have zf6 := HG.out.z_.frozen 6
    simp only [List.getElem?_toArray, List.getElem?_cons_zero, List.getElem?_cons_succ] at z0 z1 z2 z3 z4 z5 z6
    go_wp2
    (try simp only [Exit.inBlock, Exit.then])
    have hmz := mods7i W7 z (.int .i64 18) (.int .i64 0) (.int .i64 0) (.int .i64 0) (.int .i64 0) (.int .i64 vx) (.int .i64 vy)
    refine bodyPost_ret (v := .agg #[.int .i64 18, .int .i64 0, .int .i64 0, .int .i64 0, .int .i64 0, .int .i64 vx, .int .i64 vy]) ?_ rfl ⟨rfl, HG.out.md.then hmz fun q hq => .inr (by have := HG.out.wz; unfold Is at hq; omega), by rw [HT.out]; exact HG.out.ce.mods hmz fun q hq => .inr (by have := HG.out.wz; have := HG.out.pw; unfold Is at hq; omega)⟩
    exact results_cell_row rfl _ _ z 84 #[.int .i64 18, .int .i64 0, .int .i64 0, .int .i64 0, .int .i64 0, .int .i64 vx, .int .i64 vy] (0, 0) _ rfl (HG.out.z_.put7i _ _ _ _ _ _ _) Tryz.underlying84 rfl (by kernel_rfl)

end Go.Proofs.YtkapmfopfddmbaaGreat

/-
  The program of layer 17: Instr, Mach (made by wip/lab/genicpge.py).
-/
namespace Go.Proofs.YtkapmfopfddmbaaGreat
open Go.RowKit
set_option linter.unusedVariables false
set_option linter.unusedSimpArgs false

theorem readE_errP {op r n : Int} {s : Ip} (h : s.err ≠ 0) : readE op r n s = (Mi0, s) := by
  have hd : dE op r s = (0, s) := optE_err h
  have ha : aE op r s = (0, s) := by unfold aE; rw [hd]; exact optE_err h
  have hb : bE op r s = (0, s) := by unfold bE; rw [ha]; exact optE_err h
  have hi : iE op r s = (0, s) := by unfold iE; rw [hb]; exact immE_err h
  exact readE_i (by rw [hi]) h

theorem readE_lt {op r n : Int} {s : Ip} (h : op ≠ 18) : readE op r n s = (if (iE op r s).2.err ≠ 0 then Mi0 else ⟨op, (dE op r s).1, (aE op r s).1, (bE op r s).1, (iE op r s).1, 0, 0⟩, (iE op r s).2) := by
  have h8 : (op == 18) = false := beq_eq_false_iff_ne.2 h
  have hx : xE op r n s = (0, (iE op r s).2) := by unfold xE; rw [h8]; exact if_neg fun hh => by cases hh.1
  have hy : yE op r n s = (0, (iE op r s).2) := by unfold yE; rw [h8, hx]; exact if_neg fun hh => by cases hh.1
  have hz : zE op r n s = (iE op r s).2 := by unfold zE; rw [h8, hy]; exact if_neg fun hh => by cases hh.1
  unfold readE
  rw [hz, hx, hy]
  split <;> rfl

theorem readE_18 {r n : Int} {s : Ip} {tx ty : Int × Ip} (hx : locE r n s = tx) (hy : locE r n tx.2 = ty) : readE 18 r n s = (if (twoE true tx.1 ty.1 ty.2).err ≠ 0 then Mi0 else ⟨18, 0, 0, 0, 0, tx.1, ty.1⟩, twoE true tx.1 ty.1 ty.2) := by
  have hd : dE 18 r s = (0, s) := rfl
  have ha : aE 18 r s = (0, s) := rfl
  have hb : bE 18 r s = (0, s) := rfl
  have hi : iE 18 r s = (0, s) := by
    show immE false s = (0, s)
    exact if_neg fun hh => by cases hh.1
  have hx' : xE 18 r n s = tx := by unfold xE; rw [hi, show ((18 : Int) == 18) = true from rfl, olocE_true, hx]
  have hy' : yE 18 r n s = ty := by unfold yE; rw [hx', show ((18 : Int) == 18) = true from rfl, olocE_true, hy]
  have hz : zE 18 r n s = twoE true tx.1 ty.1 ty.2 := by unfold zE; rw [hx', hy']; rfl
  unfold readE
  rw [hz, hd, ha, hb, hi, hx', hy']
  split <;> rfl

theorem firstE_rng {most nt why : Int} {s : Ip} (h : 0 ≤ most) : 0 ≤ (firstE most nt why s).1 ∧ (firstE most nt why s).1 ≤ most := by
  obtain ⟨l, e⟩ := s
  unfold firstE
  split
  · exact ⟨Int.le_refl _, h⟩
  · rcases l with _ | ⟨x, r⟩
    · exact ⟨Int.le_refl _, h⟩
    · dsimp only
      split
      · exact ⟨Int.le_refl _, h⟩
      · exact ⟨by dsimp only; omega, by dsimp only; omega⟩

theorem instrE_eq {r : Int} {s : Ip} : instrE r s = readE (firstE 17 0 8 s).1 r 0 (firstE 17 0 8 s).2 := by
  unfold instrE
  split
  · rename_i h; exact (readE_errP h).symm
  · rfl

theorem machE_eq {r n : Int} {s : Ip} : machE r n s = readE (firstE 18 2 8 s).1 r n (firstE 18 2 8 s).2 := by
  unfold machE
  split
  · rename_i h; exact (readE_errP h).symm
  · rfl

section
variable {w : World} {lo p : Nat} {l : List Nat} {A : Option Addr} {c : Nat} {s : Ip}

theorem first_src (h : CE lo p l A c s w) : Calls Tryz.prog 80 #[.func (.func 18) #[.pointer (some ⟨p, 0, none⟩)] #[], .func (.func 66) #[.pointer (some ⟨p, 0, none⟩)] #[], .func (.func 81) #[] #[], .int .i64 8] w
      fun e w' => e = .returned (.int .i64 (firstE 17 0 8 s).1) ∧ Mods (Is p) w w' ∧ CE lo p l A c (firstE 17 0 8 s).2 w' := by
  have hf : frs (fun v => uO v && !(v == 18)) 8 s = firstE 17 0 8 s := frs_first h.byt fun v h0 h1 => by
    rw [Bool.eq_iff_iff]; simp [uO]; omega
  have := getfirst_any h 8 (by decide) 81 (fun args W => enters_of Tryz.func81 (by kernel_rfl) rfl args W) (fun v => uO v && !(v == 18))
    (fun v W hv => (source_any v _ W rfl).mono fun e w' ⟨he, hw⟩ => ⟨he, hw ▸ Below.refl _ _⟩)
  rw [hf] at this
  exact this

theorem first_mach (h : CE lo p l A c s w) : Calls Tryz.prog 80 #[.func (.func 18) #[.pointer (some ⟨p, 0, none⟩)] #[], .func (.func 66) #[.pointer (some ⟨p, 0, none⟩)] #[], .func (.func 84) #[] #[], .int .i64 8] w
      fun e w' => e = .returned (.int .i64 (firstE 18 2 8 s).1) ∧ Mods (Is p) w w' ∧ CE lo p l A c (firstE 18 2 8 s).2 w' := by
  have hf : frs (fun v => uO v && !(v == 2)) 8 s = firstE 18 2 8 s := frs_first h.byt fun v h0 h1 => by
    rw [Bool.eq_iff_iff]; simp [uO]; omega
  have := getfirst_any h 8 (by decide) 84 (fun args W => enters_of Tryz.func84 (by kernel_rfl) rfl args W) (fun v => uO v && !(v == 2))
    (fun v W hv => (machine_any v _ W rfl).mono fun e w' ⟨he, hw⟩ => ⟨he, hw ▸ Below.refl _ _⟩)
  rw [hf] at this
  exact this

theorem first_term (h : CE lo p l A c s w) : Calls Tryz.prog 80 #[.func (.func 18) #[.pointer (some ⟨p, 0, none⟩)] #[], .func (.func 66) #[.pointer (some ⟨p, 0, none⟩)] #[], .func (.func 89) #[] #[], .int .i64 16] w
      fun e w' => e = .returned (.int .i64 (firstE 3 0 16 s).1) ∧ Mods (Is p) w w' ∧ CE lo p l A c (firstE 3 0 16 s).2 w' := by
  have hf : frs kOk 16 s = firstE 3 0 16 s := frs_first h.byt fun v h0 h1 => by
    rw [Bool.eq_iff_iff]; simp [kOk]; omega
  have := getfirst_any h 16 (by decide) 89 (fun args W => enters_of Tryz.func89 (by kernel_rfl) rfl args W) kOk
    (fun v W hv => iskind_any v W)
  rw [hf] at this
  exact this

end

/-- What Instr, Mach and Term carry: the result's block. -/
structure GZ (w : World) (lo p : Nat) (l : List Nat) (A : Option Addr) (c : Nat) (t : Ip) (T : TypeId) (zs : Array Value) (z : Nat) (W : World) : Prop where
  md : Mods (Is p) w W
  ce : CE lo p l A c t W
  z_ : Row W z T zs
  pw : p < w.heap.size
  wz : w.heap.size ≤ z

section
variable {w : World} {lo p : Nat} {l : List Nat} {A : Option Addr} {c : Nat} {t t' : Ip} {T : TypeId} {zs : Array Value} {z : Nat} {W W' : World}

theorem GZ.next (h : GZ w lo p l A c t T zs z W) (hm : Mods (Is p) W W') (hc : CE lo p l A c t' W') : GZ w lo p l A c t' T zs z W' := by
  obtain ⟨md, ce, z_, pw, wz⟩ := h
  exact ⟨md.trans hm, hc, z_.mods hm (fun hh => by unfold Is at hh; omega), pw, wz⟩

theorem GZ.below (h : GZ w lo p l A c t T zs z W) (hb : Below W.heap.size W W') : GZ w lo p l A c t T zs z W' :=
  h.next (Mods.of_below hb) (h.ce.mods (S := No) (Mods.of_below hb) fun _ hk => hk.elim)

theorem GZ.fin (h : GZ w lo p l A c t T zs z W) (hm : Mods (Is z) W W') : Mods (Is p) w W' ∧ CE lo p l A c t W' := by
  obtain ⟨md, ce, z_, pw, wz⟩ := h
  exact ⟨md.then hm fun q hq => .inr (by unfold Is at hq; omega), ce.mods hm fun q hq => .inr (by unfold Is at hq; omega)⟩

theorem GZ.new (h : CE lo p l A c t w) (T : TypeId) (zs : Array Value) : GZ w lo p l A c t T zs w.heap.size (w.alloc (.cells zs T)) :=
  ⟨(Mods.refl _ _).alloc _, h.alloc _, Row.new _ _ _, h.lt, Nat.le_refl _⟩

end

set_option maxRecDepth 100000 in
set_option maxHeartbeats 4000000 in
theorem instr_ce {w : World} {lo p : Nat} {l : List Nat} {A : Option Addr} {c : Nat} {s : Ip} (h : CE lo p l A c s w) (r : Int) (hr : 0 ≤ r ∧ r ≤ 1000000000) {m : Mi} {t : Ip} (hm : instrE r s = (m, t)) :
    Calls Tryz.prog 71 #[.pointer (some ⟨p, 0, none⟩), .int .i64 r] w fun e w' => e = .returned (.agg #[.int .i64 m.op, .int .i64 m.d, .int .i64 m.a, .int .i64 m.b, .int .i64 m.imm]) ∧ Mods (Is p) w w' ∧ CE lo p l A c t w' := by
  have hmf : ∀ (fn : Fn) (first cap : Array Value) (w : World), (Instr.makeFunc fn first cap).run Tryz.prog w = .ok (.func fn first cap) w := fun _ _ _ _ => rfl
  have HG : Hid (GZ w lo p l A c s 79 #[.int .i64 0, .int .i64 0, .int .i64 0, .int .i64 0, .int .i64 0] w.heap.size (w.alloc (.cells #[.int .i64 0, .int .i64 0, .int .i64 0, .int .i64 0, .int .i64 0] 79))) := GZ.new h _ _
  have C1 := Lib.hid (first_src HG.out.ce)
  have hv := firstE_rng (most := 17) (nt := 0) (why := 8) (s := s) (by decide)
  rw [instrE_eq] at hm
  obtain ⟨⟨v, u⟩, hf⟩ : ∃ y, y = firstE 17 0 8 s := ⟨_, rfl⟩
  rw [← hf] at C1 hv hm
  clear hf h
  dsimp only at C1 hv hm
  rw [readE_lt (show v ≠ 18 by omega)] at hm
  have hm1 : (if (iE v r u).2.err ≠ 0 then Mi0 else ⟨v, (dE v r u).1, (aE v r u).1, (bE v r u).1, (iE v r u).1, 0, 0⟩) = m := congrArg Prod.fst hm
  have hm2 : (iE v r u).2 = t := congrArg Prod.snd hm
  have HE : Hid ((if t.err ≠ 0 then #[.int .i64 0, .int .i64 0, .int .i64 0, .int .i64 0, .int .i64 0] else #[.int .i64 v, .int .i64 (dE v r u).1, .int .i64 (aE v r u).1, .int .i64 (bE v r u).1, .int .i64 (iE v r u).1]) = (#[.int .i64 m.op, .int .i64 m.d, .int .i64 m.a, .int .i64 m.b, .int .i64 m.imm] : Array Value)) := by
    show _ = _
    rw [← hm1, hm2]
    split <;> rfl
  have C2 := Lib.hid fun W (hc : CE lo p l A c u W) => getfields_any hc v r hr
  rw [hm2] at C2
  generalize (dE v r u).1 = vd at *
  generalize (aE v r u).1 = va at *
  generalize (bE v r u).1 = vb at *
  generalize (iE v r u).1 = vi at *
  clear hm hm1 hm2 hr
  go_enter Tryz.func71, Tryz.ntmps71
  go_upto_region 1 with fail
  generalize (w.alloc (.cells #[.int .i64 0, .int .i64 0, .int .i64 0, .int .i64 0, .int .i64 0] 79)) = W0 at *
  generalize w.heap.size = z at *
  go_wp2_with fail
  refine C1.out.mono ?_
  rintro e W1 ⟨rfl, hm, hc⟩
  have HG1 := Lib.hid (HG.out.next hm hc)
  clear hm hc HG C1
  go_wp2_with fail
  refine (C2.out _ HG1.out.ce).mono ?_
  rintro e W2 ⟨rfl, hm, hc⟩
  have HG2 := Lib.hid (HG1.out.next hm hc)
  clear hm hc HG1 C2
  have C3 := Lib.hid (unl_instr HG2.out.ce v vd va vb vi)
  rw [HE.out] at C3
  go_wp2_with fail
  refine C3.out.mono ?_
  rintro e W3 ⟨rfl, hb⟩
  have HG3 := Lib.hid (HG2.out.below hb)
  clear hb HG2 C3
  have z0 := HG3.out.z_.cell 0; have z1 := HG3.out.z_.cell 1; have z2 := HG3.out.z_.cell 2; have z3 := HG3.out.z_.cell 3; have z4 := HG3.out.z_.cell 4
  have zf0 := HG3.out.z_.frozen 0; have zf1 := HG3.out.z_.frozen 1; have zf2 := HG3.out.z_.frozen 2; have zf3 := HG3.out.z_.frozen 3; have zf4 := HG3.out.z_.frozen 4
  simp only [List.getElem?_toArray, List.getElem?_cons_zero, List.getElem?_cons_succ] at z0 z1 z2 z3 z4
  go_wp2
  (try simp only [Exit.inBlock, Exit.then])
  refine bodyPost_ret (v := .agg #[.int .i64 m.op, .int .i64 m.d, .int .i64 m.a, .int .i64 m.b, .int .i64 m.imm]) ?_ rfl ⟨rfl, HG3.out.fin (mods5i W3 z (.int .i64 m.op) (.int .i64 m.d) (.int .i64 m.a) (.int .i64 m.b) (.int .i64 m.imm))⟩
  exact results_cell_row rfl _ _ z 79 #[.int .i64 m.op, .int .i64 m.d, .int .i64 m.a, .int .i64 m.b, .int .i64 m.imm] (0, 0) _ rfl (HG3.out.z_.put5i _ _ _ _ _) Tryz.underlying79 rfl (by kernel_rfl)

set_option maxRecDepth 100000 in
set_option maxHeartbeats 4000000 in
theorem mach_ce {w : World} {lo p : Nat} {l : List Nat} {A : Option Addr} {c : Nat} {s : Ip} (h : CE lo p l A c s w) (r n : Int) (hr : 0 ≤ r ∧ r ≤ 1000000000) (hn : 0 ≤ n ∧ n ≤ 1000000000) {m : Mi} {t : Ip} (hm : machE r n s = (m, t)) :
    Calls Tryz.prog 73 #[.pointer (some ⟨p, 0, none⟩), .int .i64 r, .int .i64 n] w fun e w' => e = .returned (.agg #[.int .i64 m.op, .int .i64 m.d, .int .i64 m.a, .int .i64 m.b, .int .i64 m.imm, .int .i64 m.dst, .int .i64 m.src]) ∧ Mods (Is p) w w' ∧ CE lo p l A c t w' := by
  have hmf : ∀ (fn : Fn) (first cap : Array Value) (w : World), (Instr.makeFunc fn first cap).run Tryz.prog w = .ok (.func fn first cap) w := fun _ _ _ _ => rfl
  have HG : Hid (GZ w lo p l A c s 84 #[.int .i64 0, .int .i64 0, .int .i64 0, .int .i64 0, .int .i64 0, .int .i64 0, .int .i64 0] w.heap.size (w.alloc (.cells #[.int .i64 0, .int .i64 0, .int .i64 0, .int .i64 0, .int .i64 0, .int .i64 0, .int .i64 0] 84))) := GZ.new h _ _
  have C1 := Lib.hid (first_mach HG.out.ce)
  have hv := firstE_rng (most := 18) (nt := 2) (why := 8) (s := s) (by decide)
  rw [machE_eq] at hm
  obtain ⟨⟨v, u⟩, hf⟩ : ∃ y, y = firstE 18 2 8 s := ⟨_, rfl⟩
  rw [← hf] at C1 hv hm
  clear hf h
  dsimp only at C1 hv hm
  by_cases h18 : v = 18
  · subst h18
    obtain ⟨tx, htx⟩ : ∃ y, locE r n u = y := ⟨_, rfl⟩
    obtain ⟨ty, hty⟩ : ∃ y, locE r n tx.2 = y := ⟨_, rfl⟩
    rw [readE_18 htx hty] at hm
    have hm1 : (if (twoE true tx.1 ty.1 ty.2).err ≠ 0 then Mi0 else ⟨18, 0, 0, 0, 0, tx.1, ty.1⟩) = m := congrArg Prod.fst hm
    have hm2 : twoE true tx.1 ty.1 ty.2 = t := congrArg Prod.snd hm
    have HE : Hid ((if t.err ≠ 0 then #[.int .i64 0, .int .i64 0, .int .i64 0, .int .i64 0, .int .i64 0, .int .i64 0, .int .i64 0] else #[.int .i64 18, .int .i64 0, .int .i64 0, .int .i64 0, .int .i64 0, .int .i64 tx.1, .int .i64 ty.1]) = (#[.int .i64 m.op, .int .i64 m.d, .int .i64 m.a, .int .i64 m.b, .int .i64 m.imm, .int .i64 m.dst, .int .i64 m.src] : Array Value)) := by
      show _ = _
      rw [← hm1, hm2]
      split <;> rfl
    have C2 := Lib.hid fun W (hc : CE lo p l A c u W) => getmove_any hc r n hr.2 hn.2 htx hty
    rw [hm2] at C2
    generalize tx.1 = vx at *
    generalize ty.1 = vy at *
    clear hm hm1 hm2 hr hn hv htx hty
    go_enter Tryz.func73, Tryz.ntmps73
    go_upto_region 1 with fail
    generalize (w.alloc (.cells #[.int .i64 0, .int .i64 0, .int .i64 0, .int .i64 0, .int .i64 0, .int .i64 0, .int .i64 0] 84)) = W0 at *
    generalize w.heap.size = z at *
    go_wp2_with fail
    refine C1.out.mono ?_
    rintro e W1 ⟨rfl, hm, hc⟩
    have HG1 := Lib.hid (HG.out.next hm hc)
    clear hm hc HG C1
    go_wp2_with fail
    refine (C2.out _ HG1.out.ce).mono ?_
    rintro e W2 ⟨rfl, hm, hc⟩
    have HG2 := Lib.hid (HG1.out.next hm hc)
    clear hm hc HG1 C2
    have C3 := Lib.hid (unl_mach HG2.out.ce 18 0 0 0 0 vx vy)
    rw [HE.out] at C3
    go_wp2_with fail
    refine C3.out.mono ?_
    rintro e W3 ⟨rfl, hb⟩
    have HG3 := Lib.hid (HG2.out.below hb)
    clear hb HG2 C3
    have z0 := HG3.out.z_.cell 0; have z1 := HG3.out.z_.cell 1; have z2 := HG3.out.z_.cell 2; have z3 := HG3.out.z_.cell 3; have z4 := HG3.out.z_.cell 4; have z5 := HG3.out.z_.cell 5; have z6 := HG3.out.z_.cell 6
    have zf0 := HG3.out.z_.frozen 0; have zf1 := HG3.out.z_.frozen 1; have zf2 := HG3.out.z_.frozen 2; have zf3 := HG3.out.z_.frozen 3; have zf4 := HG3.out.z_.frozen 4; have zf5 := HG3.out.z_.frozen 5; have zf6 := HG3.out.z_.frozen 6
    simp only [List.getElem?_toArray, List.getElem?_cons_zero, List.getElem?_cons_succ] at z0 z1 z2 z3 z4 z5 z6
    go_wp2
    (try simp only [Exit.inBlock, Exit.then])
    refine bodyPost_ret (v := .agg #[.int .i64 m.op, .int .i64 m.d, .int .i64 m.a, .int .i64 m.b, .int .i64 m.imm, .int .i64 m.dst, .int .i64 m.src]) ?_ rfl ⟨rfl, HG3.out.fin (mods7i W3 z (.int .i64 m.op) (.int .i64 m.d) (.int .i64 m.a) (.int .i64 m.b) (.int .i64 m.imm) (.int .i64 m.dst) (.int .i64 m.src))⟩
    exact results_cell_row rfl _ _ z 84 #[.int .i64 m.op, .int .i64 m.d, .int .i64 m.a, .int .i64 m.b, .int .i64 m.imm, .int .i64 m.dst, .int .i64 m.src] (0, 0) _ rfl (HG3.out.z_.put7i _ _ _ _ _ _ _) Tryz.underlying84 rfl (by kernel_rfl)
  · rw [readE_lt h18] at hm
    have d18 : (v == 18) = false := beq_eq_false_iff_ne.2 h18
    have hm1 : (if (iE v r u).2.err ≠ 0 then Mi0 else ⟨v, (dE v r u).1, (aE v r u).1, (bE v r u).1, (iE v r u).1, 0, 0⟩) = m := congrArg Prod.fst hm
    have hm2 : (iE v r u).2 = t := congrArg Prod.snd hm
    have HE : Hid ((if t.err ≠ 0 then #[.int .i64 0, .int .i64 0, .int .i64 0, .int .i64 0, .int .i64 0, .int .i64 0, .int .i64 0] else #[.int .i64 v, .int .i64 (dE v r u).1, .int .i64 (aE v r u).1, .int .i64 (bE v r u).1, .int .i64 (iE v r u).1, .int .i64 0, .int .i64 0]) = (#[.int .i64 m.op, .int .i64 m.d, .int .i64 m.a, .int .i64 m.b, .int .i64 m.imm, .int .i64 m.dst, .int .i64 m.src] : Array Value)) := by
      show _ = _
      rw [← hm1, hm2]
      split <;> rfl
    have C2 := Lib.hid fun W (hc : CE lo p l A c u W) => getfields_any hc v r hr
    rw [hm2] at C2
    generalize (dE v r u).1 = vd at *
    generalize (aE v r u).1 = va at *
    generalize (bE v r u).1 = vb at *
    generalize (iE v r u).1 = vi at *
    clear hm hm1 hm2 hr hn h18
    go_enter Tryz.func73, Tryz.ntmps73
    go_upto_region 1 with fail
    generalize (w.alloc (.cells #[.int .i64 0, .int .i64 0, .int .i64 0, .int .i64 0, .int .i64 0, .int .i64 0, .int .i64 0] 84)) = W0 at *
    generalize w.heap.size = z at *
    go_wp2_with fail
    refine C1.out.mono ?_
    rintro e W1 ⟨rfl, hm, hc⟩
    have HG1 := Lib.hid (HG.out.next hm hc)
    clear hm hc HG C1
    go_wp2_with fail
    refine (C2.out _ HG1.out.ce).mono ?_
    rintro e W2 ⟨rfl, hm, hc⟩
    have HG2 := Lib.hid (HG1.out.next hm hc)
    clear hm hc HG1 C2
    go_upto_region 5 with fail
    have HJ := Lib.hid (Row.new W2 79 #[.int .i64 v, .int .i64 vd, .int .i64 va, .int .i64 vb, .int .i64 vi])
    have HG3 := Lib.hid (HG2.out.below ((Below.refl W2.heap.size W2).alloc (Nat.le_refl _) (.cells #[.int .i64 v, .int .i64 vd, .int .i64 va, .int .i64 vb, .int .i64 vi] 79)))
    clear HG2
    generalize (W2.alloc (.cells #[.int .i64 v, .int .i64 vd, .int .i64 va, .int .i64 vb, .int .i64 vi] 79)) = W3 at *
    generalize W2.heap.size = j at *
    have j0 := HJ.out.cell 0; have j1 := HJ.out.cell 1; have j2 := HJ.out.cell 2; have j3 := HJ.out.cell 3; have j4 := HJ.out.cell 4
    simp only [List.getElem?_toArray, List.getElem?_cons_zero, List.getElem?_cons_succ] at j0 j1 j2 j3 j4
    have C3 := Lib.hid (unl_mach HG3.out.ce v vd va vb vi 0 0)
    rw [HE.out] at C3
    go_wp2_with fail
    refine C3.out.mono ?_
    rintro e W4 ⟨rfl, hb⟩
    have HG4 := Lib.hid (HG3.out.below hb)
    clear hb HG3 C3 j0 j1 j2 j3 j4
    have z0 := HG4.out.z_.cell 0; have z1 := HG4.out.z_.cell 1; have z2 := HG4.out.z_.cell 2; have z3 := HG4.out.z_.cell 3; have z4 := HG4.out.z_.cell 4; have z5 := HG4.out.z_.cell 5; have z6 := HG4.out.z_.cell 6
    have zf0 := HG4.out.z_.frozen 0; have zf1 := HG4.out.z_.frozen 1; have zf2 := HG4.out.z_.frozen 2; have zf3 := HG4.out.z_.frozen 3; have zf4 := HG4.out.z_.frozen 4; have zf5 := HG4.out.z_.frozen 5; have zf6 := HG4.out.z_.frozen 6
    simp only [List.getElem?_toArray, List.getElem?_cons_zero, List.getElem?_cons_succ] at z0 z1 z2 z3 z4 z5 z6
    go_wp2
    (try simp only [Exit.inBlock, Exit.then])
    refine bodyPost_ret (v := .agg #[.int .i64 m.op, .int .i64 m.d, .int .i64 m.a, .int .i64 m.b, .int .i64 m.imm, .int .i64 m.dst, .int .i64 m.src]) ?_ rfl ⟨rfl, HG4.out.fin (mods7i W4 z (.int .i64 m.op) (.int .i64 m.d) (.int .i64 m.a) (.int .i64 m.b) (.int .i64 m.imm) (.int .i64 m.dst) (.int .i64 m.src))⟩
    exact results_cell_row rfl _ _ z 84 #[.int .i64 m.op, .int .i64 m.d, .int .i64 m.a, .int .i64 m.b, .int .i64 m.imm, .int .i64 m.dst, .int .i64 m.src] (0, 0) _ rfl (HG4.out.z_.put7i _ _ _ _ _ _ _) Tryz.underlying84 rfl (by kernel_rfl)

end Go.Proofs.YtkapmfopfddmbaaGreat

/-
  The program of layer 17: Term; what the three readings leave (made by wip/lab/genicpgf.py).
-/
namespace Go.Proofs.YtkapmfopfddmbaaGreat
open Go.RowKit
set_option linter.unusedVariables false
set_option linter.unusedSimpArgs false

/-- What Term carries: the result's block z, the shape s, the fields k and q with their bounds at x and y, the terminator j. -/
structure GTS (w : World) (lo p : Nat) (l : List Nat) (A : Option Addr) (c : Nat) (t : Ip) (r n : Int) (b0 b1 b2 : Bool) (z s k x q y j : Nat) (v0 v1 v2 v3 : Int) (W : World) : Prop where
  g : GZ w lo p l A c t 41 #[.int .i64 0, .int .i64 0, .int .i64 0, .int .i64 0] z W
  s_ : Row W s 129 #[.bool b0, .bool b1, .bool b2]
  k_ : Row W k 133 (numC p 101 #[.pointer (some ⟨x, 0, none⟩)] 9)
  x_ : Row W x 3 #[.int .i64 r]
  q_ : Row W q 133 (numC p 101 #[.pointer (some ⟨y, 0, none⟩)] 11)
  y_ : Row W y 3 #[.int .i64 n]
  j_ : Row W j 41 #[.int .i64 v0, .int .i64 v1, .int .i64 v2, .int .i64 v3]
  zs : z < s
  sx : s < x
  xk : x < k
  ky : k < y
  yq : y < q
  qj : q < j

section
variable {w : World} {lo p : Nat} {l : List Nat} {A : Option Addr} {c : Nat} {t t' : Ip} {r n : Int} {b0 b1 b2 : Bool} {z s k x q y j : Nat} {v0 v1 v2 v3 : Int} {W W' : World}

theorem GTS.next (h : GTS w lo p l A c t r n b0 b1 b2 z s k x q y j v0 v1 v2 v3 W) (hm : Mods (Is p) W W') (hc : CE lo p l A c t' W') : GTS w lo p l A c t' r n b0 b1 b2 z s k x q y j v0 v1 v2 v3 W' := by
  obtain ⟨g, s_, k_, x_, q_, y_, j_, zs, sx, xk, ky, yq, qj⟩ := h
  have pw := g.pw
  have wz := g.wz
  exact ⟨g.next hm hc, s_.mods hm (fun hh => by unfold Is at hh; omega), k_.mods hm (fun hh => by unfold Is at hh; omega), x_.mods hm (fun hh => by unfold Is at hh; omega), q_.mods hm (fun hh => by unfold Is at hh; omega), y_.mods hm (fun hh => by unfold Is at hh; omega), j_.mods hm (fun hh => by unfold Is at hh; omega), zs, sx, xk, ky, yq, qj⟩

theorem GTS.put (h : GTS w lo p l A c t r n b0 b1 b2 z s k x q y j v0 v1 v2 v3 W) (i : Nat) (u : Value) {u0 u1 u2 u3 : Int} (e : (#[.int .i64 v0, .int .i64 v1, .int .i64 v2, .int .i64 v3] : Array Value).setIfInBounds i u = #[.int .i64 u0, .int .i64 u1, .int .i64 u2, .int .i64 u3]) :
    GTS w lo p l A c t r n b0 b1 b2 z s k x q y j u0 u1 u2 u3 (W.setCell ⟨j, i, none⟩ u) := by
  obtain ⟨g, s_, k_, x_, q_, y_, j_, zs, sx, xk, ky, yq, qj⟩ := h
  have pw := g.pw
  have wz := g.wz
  have hp := j_.put i u
  rw [e] at hp
  have hj : Mods (Is j) W (W.setCell ⟨j, i, none⟩ u) := (Mods.refl _ _).put i u
  exact ⟨⟨g.md.then hj fun q hq => .inr (by unfold Is at hq; omega), g.ce.mods hj fun q hq => .inr (by unfold Is at hq; omega), g.z_.far (q := ⟨j, i, none⟩) (by show z ≠ j; omega) u, pw, wz⟩,
    s_.far (q := ⟨j, i, none⟩) (by show s ≠ j; omega) u, k_.far (q := ⟨j, i, none⟩) (by show k ≠ j; omega) u, x_.far (q := ⟨j, i, none⟩) (by show x ≠ j; omega) u, q_.far (q := ⟨j, i, none⟩) (by show q ≠ j; omega) u, y_.far (q := ⟨j, i, none⟩) (by show y ≠ j; omega) u, hp, zs, sx, xk, ky, yq, qj⟩

theorem GTS.below (h : GTS w lo p l A c t r n b0 b1 b2 z s k x q y j v0 v1 v2 v3 W) (hb : Below W.heap.size W W') : GTS w lo p l A c t r n b0 b1 b2 z s k x q y j v0 v1 v2 v3 W' :=
  h.next (Mods.of_below hb) (h.g.ce.mods (S := No) (Mods.of_below hb) fun _ hk => hk.elim)

end

set_option maxRecDepth 100000 in
set_option maxHeartbeats 4000000 in
theorem term_ce {w : World} {lo p : Nat} {l : List Nat} {A : Option Addr} {c : Nat} {s : Ip} (h : CE lo p l A c s w) (r n : Int) (hr : 0 ≤ r ∧ r ≤ 1000000000) (hn : 0 ≤ n ∧ n ≤ 1000000000) {m : Tm} {t : Ip} (hm : termE r n s = (m, t)) :
    Calls Tryz.prog 79 #[.pointer (some ⟨p, 0, none⟩), .int .i64 r, .int .i64 n] w fun e w' => e = .returned (.agg #[.int .i64 m.kind, .int .i64 m.a, .int .i64 m.to, .int .i64 m.el]) ∧ Mods (Is p) w w' ∧ CE lo p l A c t w' := by
  have hmf : ∀ (fn : Fn) (first cap : Array Value) (w : World), (Instr.makeFunc fn first cap).run Tryz.prog w = .ok (.func fn first cap) w := fun _ _ _ _ => rfl
  have HG : Hid (GZ w lo p l A c s 41 #[.int .i64 0, .int .i64 0, .int .i64 0, .int .i64 0] w.heap.size (w.alloc (.cells #[.int .i64 0, .int .i64 0, .int .i64 0, .int .i64 0] 41))) := GZ.new h _ _
  have C1 := Lib.hid (first_term HG.out.ce)
  obtain ⟨f, hf⟩ : ∃ y, tkE s = y := ⟨_, rfl⟩
  have hf' : firstE 3 0 16 s = f := hf
  rw [hf'] at C1
  have hk : f.2.err = 0 → 1 ≤ f.1 ∧ f.1 ≤ 3 := fun h0 => by
    have := firstE_ok (most := 3) (nt := 0) (why := 16) (s := s) (h.byt (by
      by_cases hs : s.err = 0
      · exact hs
      · have : firstE 3 0 16 s = (0, s) := by unfold firstE; exact if_pos hs
        rw [hf'] at this
        rw [this] at h0
        exact absurd h0 hs)) (by decide) (by rw [hf']; exact h0)
    rw [hf'] at this
    exact ⟨this.2.1, this.2.2.1⟩
  obtain ⟨ta, ha⟩ : ∃ y, taE r s = y := ⟨_, rfl⟩
  obtain ⟨tt, ht⟩ : ∃ y, ttE r n s = y := ⟨_, rfl⟩
  obtain ⟨te, he⟩ : ∃ y, teE r n s = y := ⟨_, rfl⟩
  have H1 : Hid (optE (kA f.1) r 9 f.2 = ta) := by
    show _ = _
    rw [← ha]
    unfold taE
    rw [hf]
    exact optE_eq fun h0 => by have := hk h0; rw [Bool.eq_iff_iff]; simp [kA]; omega
  have na : ta.2.err = 0 → f.2.err = 0 := fun h0 => by
    by_cases h1 : f.2.err = 0
    · exact h1
    · rw [← H1.out, optE_err h1] at h0; exact h0
  have H2 : Hid (optE (kT f.1) n 11 ta.2 = tt) := by
    show _ = _
    rw [← ht]
    unfold ttE
    rw [hf, ha]
    exact optE_eq fun h0 => by have := hk (na h0); rw [Bool.eq_iff_iff]; simp [kT]; omega
  have nt : tt.2.err = 0 → f.2.err = 0 := fun h0 => by
    by_cases h1 : ta.2.err = 0
    · exact na h1
    · rw [← H2.out, optE_err h1] at h0; exact absurd h0 h1
  have H3 : Hid (optE (kE f.1) n 11 tt.2 = te) := by
    show _ = _
    rw [← he]
    unfold teE
    rw [hf, ht]
    exact optE_eq fun h0 => by have := hk (nt h0); rw [Bool.eq_iff_iff]; simp [kE]
  have hm0 : termE r n s = (if te.2.err ≠ 0 then Tm0 else ⟨f.1, ta.1, tt.1, te.1⟩, te.2) := by
    unfold termE
    rw [he, ht, ha, hf]
    split <;> rfl
  rw [hm0] at hm
  have hm1 : (if te.2.err ≠ 0 then Tm0 else ⟨f.1, ta.1, tt.1, te.1⟩) = m := congrArg Prod.fst hm
  have hm2 : te.2 = t := congrArg Prod.snd hm
  have HE : Hid ((if te.2.err ≠ 0 then #[.int .i64 0, .int .i64 0, .int .i64 0, .int .i64 0] else #[.int .i64 f.1, .int .i64 ta.1, .int .i64 tt.1, .int .i64 te.1]) = (#[.int .i64 m.kind, .int .i64 m.a, .int .i64 m.to, .int .i64 m.el] : Array Value)) := by
    show _ = _
    rw [← hm1]
    split <;> rfl
  rw [← hm2]
  have hR := Lib.hid hr
  have hN := Lib.hid hn
  clear hm hm0 hm1 hm2 ha ht he hf hf' hk na nt h hr hn
  obtain ⟨b0, hb0⟩ : ∃ y, Hid (kA f.1 = y) := ⟨_, rfl⟩
  obtain ⟨b1, hb1⟩ : ∃ y, Hid (kT f.1 = y) := ⟨_, rfl⟩
  obtain ⟨b2, hb2⟩ : ∃ y, Hid (kE f.1 = y) := ⟨_, rfl⟩
  obtain ⟨b3, hb3⟩ : ∃ y, Hid (kOk f.1 = y) := ⟨_, rfl⟩
  rw [hb0.out] at H1
  rw [hb1.out] at H2
  rw [hb2.out] at H3
  have CS := Lib.hid fun W => tshape_any f.1 W
  unfold kshp at CS
  rw [hb0.out, hb1.out, hb2.out, hb3.out] at CS
  clear hb0 hb1 hb2 hb3
  go_enter Tryz.func79, Tryz.ntmps79
  go_upto_region 1 with fail
  generalize (w.alloc (.cells #[.int .i64 0, .int .i64 0, .int .i64 0, .int .i64 0] 41)) = W0 at *
  generalize w.heap.size = z at *
  go_wp2_with fail
  refine C1.out.mono ?_
  rintro e W1 ⟨rfl, hm, hc⟩
  have HG1 := Lib.hid (HG.out.next hm hc)
  clear hm hc HG C1
  go_wp2_with fail
  refine (CS.out _).mono ?_
  rintro e W2 ⟨rfl, hb⟩
  have HG2 := Lib.hid (HG1.out.below hb)
  clear hb HG1 CS
  go_upto_region 3 with fail
  have HS3 := Lib.hid (Row.new W2 129 #[.bool b0, .bool b1, .bool b2])
  have HG3 := Lib.hid (HG2.out.below ((Below.refl W2.heap.size W2).alloc (Nat.le_refl _) (.cells #[.bool b0, .bool b1, .bool b2] 129)))
  have hzs := HG2.out.z_.lt
  clear HG2
  generalize (W2.alloc (.cells #[.bool b0, .bool b1, .bool b2] 129)) = W3 at *
  generalize W2.heap.size = s0 at *
  have hs3 := HS3.out.lt
  go_wp2_with fail
  refine (below_any p r 9 W3).mono ?_
  rintro e W4 ⟨x, rfl, hx2, hx, hb⟩
  have HG4 := Lib.hid (HG3.out.below hb)
  have HS4 := Lib.hid (HS3.out.below hb HS3.out.lt)
  have HX4 := Lib.hid hx
  have hx4 := hx.lt
  clear hb hx HG3 HS3
  unfold numC
  go_upto_region 4 with fail
  have HK5 := Lib.hid (Row.new W4 133 #[.func (.func 45) #[.pointer (some ⟨p, 0, none⟩)] #[], .func (.func 66) #[.pointer (some ⟨p, 0, none⟩)] #[], .func (.func 101) #[] #[.pointer (some ⟨x, 0, none⟩)], .int .i64 9])
  have HS5 := Lib.hid (HS4.out.alloc (.cells #[.func (.func 45) #[.pointer (some ⟨p, 0, none⟩)] #[], .func (.func 66) #[.pointer (some ⟨p, 0, none⟩)] #[], .func (.func 101) #[] #[.pointer (some ⟨x, 0, none⟩)], .int .i64 9] 133))
  have HX5 := Lib.hid (HX4.out.alloc (.cells #[.func (.func 45) #[.pointer (some ⟨p, 0, none⟩)] #[], .func (.func 66) #[.pointer (some ⟨p, 0, none⟩)] #[], .func (.func 101) #[] #[.pointer (some ⟨x, 0, none⟩)], .int .i64 9] 133))
  have HG5 := Lib.hid (HG4.out.below ((Below.refl W4.heap.size W4).alloc (Nat.le_refl _) (.cells #[.func (.func 45) #[.pointer (some ⟨p, 0, none⟩)] #[], .func (.func 66) #[.pointer (some ⟨p, 0, none⟩)] #[], .func (.func 101) #[] #[.pointer (some ⟨x, 0, none⟩)], .int .i64 9] 133)))
  clear HG4 HS4 HX4
  generalize (W4.alloc (.cells #[.func (.func 45) #[.pointer (some ⟨p, 0, none⟩)] #[], .func (.func 66) #[.pointer (some ⟨p, 0, none⟩)] #[], .func (.func 101) #[] #[.pointer (some ⟨x, 0, none⟩)], .int .i64 9] 133)) = W5 at *
  generalize W4.heap.size = k at *
  have hs5 := HK5.out.lt
  go_wp2_with fail
  refine (below_any p n 11 W5).mono ?_
  rintro e W6 ⟨y, rfl, hy2, hy, hb⟩
  have HG6 := Lib.hid (HG5.out.below hb)
  have HS6 := Lib.hid (HS5.out.below hb HS5.out.lt)
  have HX6 := Lib.hid (HX5.out.below hb HX5.out.lt)
  have HK6 := Lib.hid (HK5.out.below hb HK5.out.lt)
  have HY6 := Lib.hid hy
  have hy6 := hy.lt
  clear hb hy HG5 HS5 HX5 HK5
  unfold numC
  go_upto_region 5 with fail
  have HQ7 := Lib.hid (Row.new W6 133 #[.func (.func 45) #[.pointer (some ⟨p, 0, none⟩)] #[], .func (.func 66) #[.pointer (some ⟨p, 0, none⟩)] #[], .func (.func 101) #[] #[.pointer (some ⟨y, 0, none⟩)], .int .i64 11])
  have HS7 := Lib.hid (HS6.out.alloc (.cells #[.func (.func 45) #[.pointer (some ⟨p, 0, none⟩)] #[], .func (.func 66) #[.pointer (some ⟨p, 0, none⟩)] #[], .func (.func 101) #[] #[.pointer (some ⟨y, 0, none⟩)], .int .i64 11] 133))
  have HX7 := Lib.hid (HX6.out.alloc (.cells #[.func (.func 45) #[.pointer (some ⟨p, 0, none⟩)] #[], .func (.func 66) #[.pointer (some ⟨p, 0, none⟩)] #[], .func (.func 101) #[] #[.pointer (some ⟨y, 0, none⟩)], .int .i64 11] 133))
  have HK7 := Lib.hid (HK6.out.alloc (.cells #[.func (.func 45) #[.pointer (some ⟨p, 0, none⟩)] #[], .func (.func 66) #[.pointer (some ⟨p, 0, none⟩)] #[], .func (.func 101) #[] #[.pointer (some ⟨y, 0, none⟩)], .int .i64 11] 133))
  have HY7 := Lib.hid (HY6.out.alloc (.cells #[.func (.func 45) #[.pointer (some ⟨p, 0, none⟩)] #[], .func (.func 66) #[.pointer (some ⟨p, 0, none⟩)] #[], .func (.func 101) #[] #[.pointer (some ⟨y, 0, none⟩)], .int .i64 11] 133))
  have HG7 := Lib.hid (HG6.out.below ((Below.refl W6.heap.size W6).alloc (Nat.le_refl _) (.cells #[.func (.func 45) #[.pointer (some ⟨p, 0, none⟩)] #[], .func (.func 66) #[.pointer (some ⟨p, 0, none⟩)] #[], .func (.func 101) #[] #[.pointer (some ⟨y, 0, none⟩)], .int .i64 11] 133)))
  clear HG6 HS6 HX6 HK6 HY6
  generalize (W6.alloc (.cells #[.func (.func 45) #[.pointer (some ⟨p, 0, none⟩)] #[], .func (.func 66) #[.pointer (some ⟨p, 0, none⟩)] #[], .func (.func 101) #[] #[.pointer (some ⟨y, 0, none⟩)], .int .i64 11] 133)) = W7 at *
  generalize W6.heap.size = q at *
  have hs7 := HQ7.out.lt
  go_upto_region 6 with fail
  have HT : Hid (GTS w lo p l A c f.2 r n b0 b1 b2 z s0 k x q y W7.heap.size f.1 0 0 0 (W7.alloc (.cells #[.int .i64 f.1, .int .i64 0, .int .i64 0, .int .i64 0] 41))) :=
    ⟨HG7.out.below ((Below.refl W7.heap.size W7).alloc (Nat.le_refl _) _), HS7.out.alloc _, HK7.out.alloc _, HX7.out.alloc _, HQ7.out.alloc _, HY7.out.alloc _, Row.new _ _ _, by omega, by omega, by omega, by omega, by omega, by omega⟩
  clear HG7 HS7 HX7 HK7 HY7 HQ7
  generalize (W7.alloc (.cells #[.int .i64 f.1, .int .i64 0, .int .i64 0, .int .i64 0] 41)) = W8 at *
  generalize W7.heap.size = j at *
  have C2 := Lib.hid (fld_any HT.out.g.ce b0 x r 9 HT.out.x_ (by have := HT.out.g.pw; have := HT.out.g.wz; have := HT.out.zs; have := HT.out.sx; have := HT.out.xk; have := HT.out.ky; omega) (by decide) (by have := hR.out; have := hN.out; omega))
  rw [H1.out] at C2
  have s0 := HT.out.s_.cell 0; have s1 := HT.out.s_.cell 1; have s2 := HT.out.s_.cell 2
  simp only [List.getElem?_toArray, List.getElem?_cons_zero, List.getElem?_cons_succ] at s0 s1 s2
  have hk := HT.out.k_
  unfold numC at hk
  have k0 := hk.cell 0; have k1 := hk.cell 1; have k2 := hk.cell 2; have k3 := hk.cell 3
  simp only [List.getElem?_toArray, List.getElem?_cons_zero, List.getElem?_cons_succ] at k0 k1 k2 k3
  clear hk
  go_wp2_with fail
  refine C2.out.mono ?_
  rintro e W8r ⟨rfl, hm, hc⟩
  have HTr := Lib.hid (HT.out.next hm hc)
  clear hm hc C2 s0 s1 s2 k0 k1 k2 k3 HT
  have j0 := HTr.out.j_.cell 0; have j1 := HTr.out.j_.cell 1; have j2 := HTr.out.j_.cell 2; have j3 := HTr.out.j_.cell 3
  have jf0 := HTr.out.j_.frozen 0; have jf1 := HTr.out.j_.frozen 1; have jf2 := HTr.out.j_.frozen 2; have jf3 := HTr.out.j_.frozen 3
  simp only [List.getElem?_toArray, List.getElem?_cons_zero, List.getElem?_cons_succ] at j0 j1 j2 j3
  go_upto_region 7 with fail
  clear j0 j1 j2 j3 jf0 jf1 jf2 jf3
  have HT : Hid (GTS w lo p l A c ta.2 r n b0 b1 b2 z s0 k x q y j f.1 ta.1 0 0 (W8r.setCell ⟨j, 1, none⟩ (.int .i64 ta.1))) := HTr.out.put 1 _ rfl
  generalize (W8r.setCell ⟨j, 1, none⟩ (.int .i64 ta.1)) = W9 at *
  clear HTr
  have C2 := Lib.hid (fld_any HT.out.g.ce b1 y n 11 HT.out.y_ (by have := HT.out.g.pw; have := HT.out.g.wz; have := HT.out.zs; have := HT.out.sx; have := HT.out.xk; have := HT.out.ky; omega) (by decide) (by have := hR.out; have := hN.out; omega))
  rw [H2.out] at C2
  have s0 := HT.out.s_.cell 0; have s1 := HT.out.s_.cell 1; have s2 := HT.out.s_.cell 2
  simp only [List.getElem?_toArray, List.getElem?_cons_zero, List.getElem?_cons_succ] at s0 s1 s2
  have hk := HT.out.q_
  unfold numC at hk
  have k0 := hk.cell 0; have k1 := hk.cell 1; have k2 := hk.cell 2; have k3 := hk.cell 3
  simp only [List.getElem?_toArray, List.getElem?_cons_zero, List.getElem?_cons_succ] at k0 k1 k2 k3
  clear hk
  go_wp2_with fail
  refine C2.out.mono ?_
  rintro e W9r ⟨rfl, hm, hc⟩
  have HTr := Lib.hid (HT.out.next hm hc)
  clear hm hc C2 s0 s1 s2 k0 k1 k2 k3 HT
  have j0 := HTr.out.j_.cell 0; have j1 := HTr.out.j_.cell 1; have j2 := HTr.out.j_.cell 2; have j3 := HTr.out.j_.cell 3
  have jf0 := HTr.out.j_.frozen 0; have jf1 := HTr.out.j_.frozen 1; have jf2 := HTr.out.j_.frozen 2; have jf3 := HTr.out.j_.frozen 3
  simp only [List.getElem?_toArray, List.getElem?_cons_zero, List.getElem?_cons_succ] at j0 j1 j2 j3
  go_upto_region 8 with fail
  clear j0 j1 j2 j3 jf0 jf1 jf2 jf3
  have HT : Hid (GTS w lo p l A c tt.2 r n b0 b1 b2 z s0 k x q y j f.1 ta.1 tt.1 0 (W9r.setCell ⟨j, 2, none⟩ (.int .i64 tt.1))) := HTr.out.put 2 _ rfl
  generalize (W9r.setCell ⟨j, 2, none⟩ (.int .i64 tt.1)) = W10 at *
  clear HTr
  have C2 := Lib.hid (fld_any HT.out.g.ce b2 y n 11 HT.out.y_ (by have := HT.out.g.pw; have := HT.out.g.wz; have := HT.out.zs; have := HT.out.sx; have := HT.out.xk; have := HT.out.ky; omega) (by decide) (by have := hR.out; have := hN.out; omega))
  rw [H3.out] at C2
  have s0 := HT.out.s_.cell 0; have s1 := HT.out.s_.cell 1; have s2 := HT.out.s_.cell 2
  simp only [List.getElem?_toArray, List.getElem?_cons_zero, List.getElem?_cons_succ] at s0 s1 s2
  have hk := HT.out.q_
  unfold numC at hk
  have k0 := hk.cell 0; have k1 := hk.cell 1; have k2 := hk.cell 2; have k3 := hk.cell 3
  simp only [List.getElem?_toArray, List.getElem?_cons_zero, List.getElem?_cons_succ] at k0 k1 k2 k3
  clear hk
  go_wp2_with fail
  refine C2.out.mono ?_
  rintro e W10r ⟨rfl, hm, hc⟩
  have HTr := Lib.hid (HT.out.next hm hc)
  clear hm hc C2 s0 s1 s2 k0 k1 k2 k3 HT
  have j0 := HTr.out.j_.cell 0; have j1 := HTr.out.j_.cell 1; have j2 := HTr.out.j_.cell 2; have j3 := HTr.out.j_.cell 3
  have jf0 := HTr.out.j_.frozen 0; have jf1 := HTr.out.j_.frozen 1; have jf2 := HTr.out.j_.frozen 2; have jf3 := HTr.out.j_.frozen 3
  simp only [List.getElem?_toArray, List.getElem?_cons_zero, List.getElem?_cons_succ] at j0 j1 j2 j3
  go_upto_region 9 with fail
  clear j0 j1 j2 j3 jf0 jf1 jf2 jf3
  have HT : Hid (GTS w lo p l A c te.2 r n b0 b1 b2 z s0 k x q y j f.1 ta.1 tt.1 te.1 (W10r.setCell ⟨j, 3, none⟩ (.int .i64 te.1))) := HTr.out.put 3 _ rfl
  generalize (W10r.setCell ⟨j, 3, none⟩ (.int .i64 te.1)) = W11 at *
  clear HTr
  have j0 := HT.out.j_.cell 0; have j1 := HT.out.j_.cell 1; have j2 := HT.out.j_.cell 2; have j3 := HT.out.j_.cell 3
  have jf0 := HT.out.j_.frozen 0; have jf1 := HT.out.j_.frozen 1; have jf2 := HT.out.j_.frozen 2; have jf3 := HT.out.j_.frozen 3
  simp only [List.getElem?_toArray, List.getElem?_cons_zero, List.getElem?_cons_succ] at j0 j1 j2 j3
  have C3 := Lib.hid (unl_term HT.out.g.ce f.1 ta.1 tt.1 te.1)
  rw [HE.out] at C3
  go_wp2_with fail
  refine C3.out.mono ?_
  rintro e W12 ⟨rfl, hb⟩
  have HT2 := Lib.hid (HT.out.below hb)
  clear hb HT C3 j0 j1 j2 j3 jf0 jf1 jf2 jf3
  have z0 := HT2.out.g.z_.cell 0; have z1 := HT2.out.g.z_.cell 1; have z2 := HT2.out.g.z_.cell 2; have z3 := HT2.out.g.z_.cell 3
  have zf0 := HT2.out.g.z_.frozen 0; have zf1 := HT2.out.g.z_.frozen 1; have zf2 := HT2.out.g.z_.frozen 2; have zf3 := HT2.out.g.z_.frozen 3
  simp only [List.getElem?_toArray, List.getElem?_cons_zero, List.getElem?_cons_succ] at z0 z1 z2 z3
  go_wp2
  (try simp only [Exit.inBlock, Exit.then])
  refine bodyPost_ret (v := .agg #[.int .i64 m.kind, .int .i64 m.a, .int .i64 m.to, .int .i64 m.el]) ?_ rfl ⟨rfl, HT2.out.g.fin (mods4i W12 z (.int .i64 m.kind) (.int .i64 m.a) (.int .i64 m.to) (.int .i64 m.el))⟩
  exact results_cell_row rfl _ _ z 41 #[.int .i64 m.kind, .int .i64 m.a, .int .i64 m.to, .int .i64 m.el] (0, 0) _ rfl (HT2.out.g.z_.put4i _ _ _ _) Tryz.underlying41 rfl (by kernel_rfl)

/-- What a reading leaves. -/
def Rin (lo p : Nat) (l : List Nat) (A : Option Addr) (c : Nat) (v : Array Value) (t : Ip) (w : World) (e : Ending) (w' : World) : Prop :=
  e = .returned (.agg v) ∧ Mods (Is p) w w' ∧ ∃ i', Cur w' lo p l i' t.err A c ∧ (t.err = 0 → l.drop i' = t.rest)

section
variable {w : World} {lo p : Nat} {l : List Nat} {i : Nat} {er : Int} {A : Option Addr} {c : Nat}

theorem picinstr_any (h : Cur w lo p l i er A c) (r : Int) (hr : 0 ≤ r ∧ r ≤ 65535) {m : Mi} {t : Ip} (hm : instrE r ⟨l.drop i, er⟩ = (m, t)) :
    Calls Tryz.prog 71 #[.pointer (some ⟨p, 0, none⟩), .int .i64 r] w (Rin lo p l A c #[.int .i64 m.op, .int .i64 m.d, .int .i64 m.a, .int .i64 m.b, .int .i64 m.imm] t w) :=
  instr_ce (s := ⟨l.drop i, er⟩) ⟨i, h, fun _ => rfl⟩ r ⟨hr.1, by omega⟩ hm

theorem picmach_any (h : Cur w lo p l i er A c) (r n : Int) (hr : 0 ≤ r ∧ r ≤ 65535) (hn : 0 ≤ n ∧ n ≤ 65535) {m : Mi} {t : Ip} (hm : machE r n ⟨l.drop i, er⟩ = (m, t)) :
    Calls Tryz.prog 73 #[.pointer (some ⟨p, 0, none⟩), .int .i64 r, .int .i64 n] w (Rin lo p l A c #[.int .i64 m.op, .int .i64 m.d, .int .i64 m.a, .int .i64 m.b, .int .i64 m.imm, .int .i64 m.dst, .int .i64 m.src] t w) :=
  mach_ce (s := ⟨l.drop i, er⟩) ⟨i, h, fun _ => rfl⟩ r n ⟨hr.1, by omega⟩ ⟨hn.1, by omega⟩ hm

theorem picterm_any (h : Cur w lo p l i er A c) (r n : Int) (hr : 0 ≤ r ∧ r ≤ 65535) (hn : 0 ≤ n ∧ n ≤ 65535) {m : Tm} {t : Ip} (hm : termE r n ⟨l.drop i, er⟩ = (m, t)) :
    Calls Tryz.prog 79 #[.pointer (some ⟨p, 0, none⟩), .int .i64 r, .int .i64 n] w (Rin lo p l A c #[.int .i64 m.kind, .int .i64 m.a, .int .i64 m.to, .int .i64 m.el] t w) :=
  term_ce (s := ⟨l.drop i, er⟩) ⟨i, h, fun _ => rfl⟩ r n ⟨hr.1, by omega⟩ ⟨hn.1, by omega⟩ hm

end

end Go.Proofs.YtkapmfopfddmbaaGreat
