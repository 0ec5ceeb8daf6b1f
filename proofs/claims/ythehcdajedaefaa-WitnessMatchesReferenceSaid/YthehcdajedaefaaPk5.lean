import Derived.Test.YthehcdajedaefaaIcTerm
import Derived.Test.YthehcdajedaefaaIcMach
import Derived.Test.YthehcdajedaefaaCurOps
import Derived.Test.YthehcdajedaefaaPk1
import Derived.Laws.EntriesVeiled
import Derived.Shelf.Abstract

/-
  The program of layer 17: a cursor that holds an input; a field (next), the first byte, get.
-/
namespace Go.Proofs.Ythehcdajedaefaa
open Go.RowKit
set_option linter.unusedVariables false
set_option linter.unusedSimpArgs false

/-- A cursor that holds the input t. -/
def CE (lo p : Nat) (l : List Nat) (A : Option Addr) (c : Nat) (t : Ip) (w : World) : Prop := ∃ i, Cur w lo p l i t.err A c ∧ (t.err = 0 → l.drop i = t.rest)

section
variable {w w' : World} {lo p : Nat} {l : List Nat} {A : Option Addr} {c : Nat} {t : Ip} {S : Nat → Prop}

theorem CE.mods (h : CE lo p l A c t w) (hm : Mods S w w') (hp : ∀ k, S k → k < lo ∨ p < k) : CE lo p l A c t w' := let ⟨i, hc, hr⟩ := h; ⟨i, hc.mods hm hp, hr⟩

theorem CE.alloc (h : CE lo p l A c t w) (o : Obj) : CE lo p l A c t (w.alloc o) := let ⟨i, hc, hr⟩ := h; ⟨i, hc.alloc o, hr⟩

theorem CE.lt (h : CE lo p l A c t w) : p < w.heap.size := let ⟨i, hc, hr⟩ := h; hc.row.lt

theorem CE.byt (h : CE lo p l A c t w) (h0 : t.err = 0) : Byt t.rest := by
  obtain ⟨i, hc, hr⟩ := h
  rw [← hr h0]
  exact hc.rest

end

/-- What Uint leaves of an input, and what it returns. -/
def rawT (t : Ip) : Ip := if t.err ≠ 0 then t else if (getS t.rest).2.2 ≠ 0 then ⟨[], ((getS t.rest).2.2 : Int)⟩ else ⟨t.rest.drop (getS t.rest).2.1, 0⟩

def rawV (t : Ip) : Nat := if (rawT t).err = 0 then (getS t.rest).1 else 0

/-- The signed value of an unsigned one. -/
def sg (v : Nat) : Int := if v < 9223372036854775808 then (v : Int) else (v : Int) - 18446744073709551616

def failT (x : Int) (t : Ip) : Ip := if t.err = 0 then ⟨[], x⟩ else t

theorem rawT_err {t : Ip} (h : (rawT t).err = 0) : t.err = 0 ∧ (getS t.rest).2.2 = 0 := by
  unfold rawT at h
  by_cases h0 : t.err ≠ 0
  · rw [if_pos h0] at h; exact absurd h h0
  · rw [if_neg h0] at h
    by_cases h1 : (getS t.rest).2.2 ≠ 0
    · rw [if_pos h1] at h; simp only at h; omega
    · exact ⟨by omega, by omega⟩

theorem rawV_lt {t : Ip} (hb : t.err = 0 → Byt t.rest) : rawV t < 18446744073709551616 := by
  unfold rawV
  by_cases h : (rawT t).err = 0
  · rw [if_pos h]
    obtain ⟨h0, h1⟩ := rawT_err h
    have hg : getS t.rest = ((getS t.rest).1, (getS t.rest).2.1, 0) := by rw [← h1]
    exact getS_lt (hb h0) hg
  · rw [if_neg h]; decide

theorem sg_wrap {v : Nat} (h : v < 18446744073709551616) : wrap64 (v : Int) = sg v := by
  unfold sg wrap64
  split <;> omega

theorem sg_in {v : Nat} (h : v < 18446744073709551616) : -9223372036854775808 ≤ sg v ∧ sg v ≤ 9223372036854775807 := by
  unfold sg
  split <;> omega

section
variable {w : World} {lo p : Nat} {l : List Nat} {A : Option Addr} {c : Nat} {t : Ip}

theorem uint_ce (h : CE lo p l A c t w) :
    Calls Try.prog 47 #[.pointer (some ⟨p, 0, none⟩), .int .u64 18446744073709551615] w fun e w' => e = .returned (.int .u64 (rawV t)) ∧ Mods (Is p) w w' ∧ CE lo p l A c (rawT t) w' := by
  obtain ⟨i, hc, hr⟩ := h
  have hu : uintS 18446744073709551615 (l.drop i) = getS (l.drop i) := by
    unfold uintS
    rw [if_neg]
    rintro ⟨h1, h2⟩
    have hg : getS (l.drop i) = ((getS (l.drop i)).1, (getS (l.drop i)).2.1, 0) := by rw [← h1]
    have := getS_lt hc.rest hg
    omega
  refine (uint_any hc 18446744073709551615 (by decide)).mono ?_
  rw [hu]
  rintro e w' ⟨rfl, hm, hc'⟩
  by_cases h0 : t.err = 0
  · have hr0 := hr h0
    rw [hr0] at hc' ⊢
    by_cases h1 : (getS t.rest).2.2 = 0
    · have hT : rawT t = ⟨t.rest.drop (getS t.rest).2.1, 0⟩ := by unfold rawT; rw [if_neg (by omega), if_neg (by omega)]
      have hV : rawV t = (getS t.rest).1 := by unfold rawV; rw [hT, if_pos rfl]
      refine ⟨by rw [hV, stepV, if_pos ⟨h0, h1⟩], hm, ⟨i + (getS t.rest).2.1, ?_, fun _ => ?_⟩⟩
      · rw [hT]
        rw [stepI, if_pos ⟨h0, h1⟩, stepE, if_pos h0, h1] at hc'
        exact hc'
      · rw [hT, ← List.drop_drop, hr0]
    · have hT : rawT t = ⟨[], ((getS t.rest).2.2 : Int)⟩ := by unfold rawT; rw [if_neg (by omega), if_pos h1]
      have hV : rawV t = 0 := by unfold rawV; rw [hT, if_neg (by simp only; omega)]
      refine ⟨by rw [hV, stepV, if_neg fun h => h1 h.2], hm, ⟨i, ?_, fun h => absurd h (by rw [hT]; simp only; omega)⟩⟩
      rw [hT]
      rw [stepI, if_neg fun h => h1 h.2, stepE, if_pos h0] at hc'
      exact hc'
  · have hT : rawT t = t := by unfold rawT; rw [if_pos h0]
    have hV : rawV t = 0 := by unfold rawV; rw [hT, if_neg h0]
    refine ⟨by rw [hV, stepV, if_neg fun h => h0 h.1], hm, ⟨i, ?_, fun h => absurd h (by rw [hT]; exact h0)⟩⟩
    rw [hT]
    rw [stepI, if_neg fun h => h0 h.1, stepE, if_neg h0] at hc'
    exact hc'

theorem fail_ce (h : CE lo p l A c t w) (x : Int) (hx : x ≠ 0) :
    Calls Try.prog 34 #[.pointer (some ⟨p, 0, none⟩), .int .i64 x] w fun e w' => e = .returned (.tuple #[]) ∧ Mods (Is p) w w' ∧ CE lo p l A c (failT x t) w' := by
  obtain ⟨i, hc, hr⟩ := h
  refine (fail_any hc x).mono ?_
  rintro e w' ⟨rfl, hm, hc'⟩
  by_cases h0 : t.err = 0
  · have hT : failT x t = ⟨[], x⟩ := if_pos h0
    rw [hT]
    refine ⟨rfl, hm, ⟨i, ?_, fun h => absurd h hx⟩⟩
    rw [failS, if_pos h0] at hc'
    exact hc'
  · have hT : failT x t = t := if_neg h0
    rw [hT]
    refine ⟨rfl, hm, ⟨i, ?_, fun h => absurd h h0⟩⟩
    rw [failS, if_neg h0] at hc'
    exact hc'

end

/-- What next returns and leaves, for any question that a number must answer. -/
def nxt (val : Int → Bool) (why : Int) (t : Ip) : Int × Ip := if val (sg (rawV t)) = true then (sg (rawV t), rawT t) else (0, failT why (rawT t))

theorem nxt_err {val : Int → Bool} {why : Int} {t : Ip} (h0 : t.err ≠ 0) : nxt val why t = (0, t) := by
  have hT : rawT t = t := if_pos h0
  have hV : rawV t = 0 := by unfold rawV; rw [hT]; exact if_neg h0
  have hf : failT why t = t := if_neg h0
  unfold nxt
  rw [hT, hV, hf]
  split <;> rfl

theorem nxt_bad {val : Int → Bool} {why : Int} {t : Ip} (h0 : t.err = 0) (h2 : (getS t.rest).2.2 ≠ 0) : nxt val why t = (0, ⟨[], ((getS t.rest).2.2 : Int)⟩) := by
  have hT : rawT t = ⟨[], ((getS t.rest).2.2 : Int)⟩ := (if_neg fun hh => hh h0).trans (if_pos h2)
  have hV : rawV t = 0 := by unfold rawV; rw [hT]; exact if_neg (by dsimp only; omega)
  have hf : failT why ⟨[], ((getS t.rest).2.2 : Int)⟩ = ⟨[], ((getS t.rest).2.2 : Int)⟩ := if_neg (by dsimp only; omega)
  unfold nxt
  rw [hT, hV, hf]
  split <;> rfl

theorem nxt_good {val : Int → Bool} {why : Int} {t : Ip} (h0 : t.err = 0) (h2 : (getS t.rest).2.2 = 0) : nxt val why t = if val (sg (getS t.rest).1) = true then (sg (getS t.rest).1, ⟨t.rest.drop (getS t.rest).2.1, 0⟩) else (0, ⟨[], why⟩) := by
  have hT : rawT t = ⟨t.rest.drop (getS t.rest).2.1, 0⟩ := (if_neg fun hh => hh h0).trans (if_neg fun hh => hh h2)
  have hV : rawV t = (getS t.rest).1 := by unfold rawV; rw [hT]; exact if_pos rfl
  unfold nxt
  rw [hT, hV]
  rfl

theorem numE_bad {bd why : Int} {t : Ip} (h0 : t.err = 0) (h2 : (getS t.rest).2.2 ≠ 0) : numE bd why t = (0, ⟨[], ((getS t.rest).2.2 : Int)⟩) := (if_neg fun hh => hh h0).trans (if_pos h2)

theorem numE_good {bd why : Int} {t : Ip} (h0 : t.err = 0) (h2 : (getS t.rest).2.2 = 0) : numE bd why t = if bd ≤ ((getS t.rest).1 : Int) then (0, ⟨[], why⟩) else (((getS t.rest).1 : Int), ⟨t.rest.drop (getS t.rest).2.1, 0⟩) := (if_neg fun hh => hh h0).trans (if_neg fun hh => hh h2)

theorem getS_lt2 {t : Ip} (hb : t.err = 0 → Byt t.rest) (h0 : t.err = 0) (h2 : (getS t.rest).2.2 = 0) : (getS t.rest).1 < 18446744073709551616 := by
  have hg : getS t.rest = ((getS t.rest).1, (getS t.rest).2.1, 0) := by rw [← h2]
  exact getS_lt (hb h0) hg

theorem nxt_num {bd why : Int} {t : Ip} (hb : t.err = 0 → Byt t.rest) (h1 : bd ≤ 9223372036854775808) : nxt (fun v => decide (0 ≤ v ∧ v < bd)) why t = numE bd why t := by
  by_cases h0 : t.err = 0
  · by_cases h2 : (getS t.rest).2.2 = 0
    · have hv := getS_lt2 hb h0 h2
      rw [nxt_good h0 h2, numE_good h0 h2]
      generalize (getS t.rest).1 = v at *
      unfold sg
      by_cases h3 : bd ≤ (v : Int)
      · rw [if_pos h3]
        refine if_neg fun h => ?_
        have := of_decide_eq_true h
        split at this <;> omega
      · rw [if_neg h3]
        have hs : (if v < 9223372036854775808 then (v : Int) else (v : Int) - 18446744073709551616) = v := if_pos (by omega)
        rw [hs]
        exact if_pos (decide_eq_true ⟨by omega, by omega⟩)
    · rw [nxt_bad h0 h2, numE_bad h0 h2]
  · rw [nxt_err h0, numE_err h0]

theorem nxt_loc {r n : Int} {t : Ip} (hb : t.err = 0 → Byt t.rest) (hr : r ≤ 1000000000) (hn : n ≤ 1000000000) : nxt (fun v => locS v r n) 10 t = locE r n t := by
  by_cases h0 : t.err = 0
  · by_cases h2 : (getS t.rest).2.2 = 0
    · have hv := getS_lt2 hb h0 h2
      rw [nxt_good h0 h2]
      unfold locE
      rw [numE_good h0 h2]
      generalize (getS t.rest).1 = v at *
      by_cases h3 : (4611686018427387904 : Int) ≤ (v : Int)
      · have hls : locS (sg v) r n = false := by
          unfold sg locS
          split
          · rw [if_neg (by omega)]
            split
            · exact decide_eq_false (by omega)
            · exact decide_eq_false (by omega)
          · rw [if_pos (by omega)]
        rw [if_pos h3, if_neg (c := (0, (⟨[], 10⟩ : Ip)).2.err = 0 ∧ locS (0, (⟨[], 10⟩ : Ip)).1 r n = false) fun h => absurd h.1 (by decide)]
        exact if_neg fun h => by have h' : locS (sg v) r n = true := h; rw [hls] at h'; cases h'
      · have hs : sg v = (v : Int) := if_pos (by omega)
        rw [hs, if_neg h3]
        dsimp only
        cases hl : locS (v : Int) r n
        · rfl
        · rfl
    · rw [nxt_bad h0 h2]
      unfold locE
      rw [numE_bad h0 h2]
      exact (if_neg fun h => by have := h.1; dsimp only at this; omega).symm
  · rw [nxt_err h0, locE_err h0]

/-- What Byte leaves of an input, and what it returns. -/
def byT (t : Ip) : Ip := if t.err ≠ 0 then t else match t.rest with
  | [] => ⟨[], 1⟩
  | _ :: r => ⟨r, 0⟩

def byV (t : Ip) : Nat := if t.err ≠ 0 then 0 else match t.rest with
  | [] => 0
  | c :: _ => c

theorem byV_lt {t : Ip} (hb : t.err = 0 → Byt t.rest) : byV t < 256 := by
  obtain ⟨l, e⟩ := t
  unfold byV
  by_cases h0 : e = 0
  · rw [if_neg (fun hh => hh h0)]
    rcases l with _ | ⟨x, r⟩
    · exact Nat.zero_lt_succ _
    · exact hb h0 x (by simp)
  · rw [if_pos h0]; exact Nat.zero_lt_succ _

section
variable {w : World} {lo p : Nat} {l : List Nat} {A : Option Addr} {c : Nat} {t : Ip}

end

def frs (val : Int → Bool) (why : Int) (t : Ip) : Int × Ip := if val (byV t) = true then ((byV t : Int), byT t) else (0, failT why (byT t))

theorem frs_first {most nt why : Int} {val : Int → Bool} {t : Ip} (hb : t.err = 0 → Byt t.rest) (hval : ∀ v : Int, 0 ≤ v → v < 256 → val v = !decide (v < 1 ∨ most < v ∨ v = nt)) : frs val why t = firstE most nt why t := by
  have v0 : val 0 = false := by rw [hval 0 (by decide) (by decide), decide_eq_true (.inl (by decide))]; rfl
  obtain ⟨l, e⟩ := t
  dsimp only at hb
  by_cases h0 : e = 0
  · unfold frs
    rcases l with _ | ⟨x, r⟩
    · have hT : byT ⟨[], e⟩ = ⟨[], 1⟩ := if_neg (fun hh => hh h0)
      have hV : byV ⟨[], e⟩ = 0 := if_neg (fun hh => hh h0)
      have hF : firstE most nt why ⟨[], e⟩ = (0, ⟨[], 1⟩) := if_neg fun hh => hh h0
      rw [hT, hV, hF]
      exact if_neg (by rw [show ((0 : Nat) : Int) = 0 from rfl, v0]; decide)
    · have hT : byT ⟨x :: r, e⟩ = ⟨r, 0⟩ := if_neg (fun hh => hh h0)
      have hV : byV ⟨x :: r, e⟩ = x := if_neg (fun hh => hh h0)
      have hF : firstE most nt why ⟨x :: r, e⟩ = if (x : Int) < 1 ∨ most < (x : Int) ∨ (x : Int) = nt then (0, ⟨[], why⟩) else ((x : Int), ⟨r, 0⟩) := if_neg fun hh => hh h0
      have hx := hb h0 x (by simp)
      rw [hT, hV, hF, hval x (by omega) (by omega)]
      by_cases h1 : (x : Int) < 1 ∨ most < (x : Int) ∨ (x : Int) = nt
      · rw [decide_eq_true h1, if_pos h1]
        exact if_neg (by decide)
      · rw [decide_eq_false h1, if_neg h1]
        exact if_pos (by decide)
  · have hT : byT ⟨l, e⟩ = ⟨l, e⟩ := if_pos h0
    have hV : byV ⟨l, e⟩ = 0 := if_pos h0
    unfold frs firstE
    rw [hT, hV, show failT why ⟨l, e⟩ = ⟨l, e⟩ from if_neg h0]
    exact (if_neg (by rw [show ((0 : Nat) : Int) = 0 from rfl, v0]; decide)).trans (if_pos h0).symm

end Go.Proofs.Ythehcdajedaefaa

/-
  The program of layer 17: below, within, unlessFailed, termShapeOf, isKind, a field that may be used (made by wip/lab/genicpgb.py).
-/
namespace Go.Proofs.Ythehcdajedaefaa
open Go.RowKit
set_option linter.unusedVariables false
set_option linter.unusedSimpArgs false

/-- A field: how it is read from the cursor at p. -/
def numC (p : Nat) (K : FuncId) (caps : Array Value) (why : Int) : Array Value := #[.func (.func 47) #[.pointer (some ⟨p, 0, none⟩)] #[], .func (.func 34) #[.pointer (some ⟨p, 0, none⟩)] #[], .func (.func K) #[] caps, .int .i64 why]

theorem two_rowsI (w : World) (T T' : TypeId) (x y : Array Value) : Below w.heap.size w ((w.alloc (.cells x T)).alloc (.cells y T')) ∧ Row ((w.alloc (.cells x T)).alloc (.cells y T')) w.heap.size T x ∧ Row ((w.alloc (.cells x T)).alloc (.cells y T')) (w.heap.size + 1) T' y := by
  have hR := Row.new (w.alloc (.cells x T)) T' y
  rw [show (w.alloc (.cells x T)).heap.size = w.heap.size + 1 by simp] at hR
  exact ⟨((Below.refl w.heap.size w).alloc (Nat.le_refl _) _).alloc (by simp) _, (Row.new w T x).alloc _, hR⟩

theorem three_rowsI (w : World) (T T' T2 : TypeId) (x y z : Array Value) : Below w.heap.size w (((w.alloc (.cells x T)).alloc (.cells y T')).alloc (.cells z T2)) ∧ Row (((w.alloc (.cells x T)).alloc (.cells y T')).alloc (.cells z T2)) w.heap.size T x ∧ Row (((w.alloc (.cells x T)).alloc (.cells y T')).alloc (.cells z T2)) (w.heap.size + 1) T' y ∧ Row (((w.alloc (.cells x T)).alloc (.cells y T')).alloc (.cells z T2)) (w.heap.size + 1 + 1) T2 z := by
  have hR := Row.new (w.alloc (.cells x T)) T' y
  rw [show (w.alloc (.cells x T)).heap.size = w.heap.size + 1 by simp] at hR
  have hR2 := Row.new ((w.alloc (.cells x T)).alloc (.cells y T')) T2 z
  rw [show ((w.alloc (.cells x T)).alloc (.cells y T')).heap.size = w.heap.size + 1 + 1 by simp] at hR2
  exact ⟨(((Below.refl w.heap.size w).alloc (Nat.le_refl _) _).alloc (by simp) _).alloc (by simp; omega) _, ((Row.new w T x).alloc _).alloc _, hR.alloc _, hR2⟩

/-- What termShapeOf answers. -/
def kOk (k : Int) : Bool := decide (1 ≤ k ∧ k ≤ 3)

def kA (k : Int) : Bool := decide (k = 2 ∨ k = 3)

def kT (k : Int) : Bool := decide (k = 1 ∨ k = 2)

def kE (k : Int) : Bool := decide (k = 2)

def kshp (k : Int) : Value := .agg #[.bool (kA k), .bool (kT k), .bool (kE k)]

theorem kways (k : Int) : k = 1 ∨ k = 2 ∨ k = 3 ∨ ((k == 1) = false ∧ (k == 2) = false ∧ (k == 3) = false ∧ kOk k = false ∧ kA k = false ∧ kT k = false ∧ kE k = false) := by
  by_cases h1 : k = 1
  · exact .inl h1
  · by_cases h2 : k = 2
    · exact .inr (.inl h2)
    · by_cases h3 : k = 3
      · exact .inr (.inr (.inl h3))
      · exact .inr (.inr (.inr ⟨beq_eq_false_iff_ne.2 h1, beq_eq_false_iff_ne.2 h2, beq_eq_false_iff_ne.2 h3, decide_eq_false (by omega), decide_eq_false (by omega), decide_eq_false (by omega), decide_eq_false (by omega)⟩))

/-- A field that is used if b. -/
theorem optE_eq {b b' : Bool} {bd why : Int} {t : Ip} (h : t.err = 0 → b' = b) : optE b' bd why t = optE b bd why t := by
  by_cases h0 : t.err = 0
  · rw [h h0]
  · rw [optE_err h0, optE_err h0]

end Go.Proofs.Ythehcdajedaefaa

/-
  The program of layer 17: getFields (made by wip/lab/genicpgc.py).
-/
namespace Go.Proofs.Ythehcdajedaefaa
open Go.RowKit
set_option linter.unusedVariables false
set_option linter.unusedSimpArgs false

section
variable {w : World} {lo p : Nat} {l : List Nat} {A : Option Addr} {c : Nat} {t t' : Ip} {regs : Int} {b0 b1 b2 b3 : Bool} {z s k x j : Nat} {v0 v1 v2 v3 v4 : Int} {W W' : World}

end

end Go.Proofs.Ythehcdajedaefaa

/-
  The program of layer 17: getMove (made by wip/lab/genicpgd.py).
-/
namespace Go.Proofs.Ythehcdajedaefaa
open Go.RowKit
set_option linter.unusedVariables false
set_option linter.unusedSimpArgs false

section
variable {w : World} {lo p : Nat} {l : List Nat} {A : Option Addr} {c : Nat} {t t' : Ip} {r n : Int} {z k x y j : Nat} {v5 v6 : Int} {W W' : World}

end

end Go.Proofs.Ythehcdajedaefaa

/-
  The program of layer 17: Instr, Mach (made by wip/lab/genicpge.py).
-/
namespace Go.Proofs.Ythehcdajedaefaa
open Go.RowKit
set_option linter.unusedVariables false
set_option linter.unusedSimpArgs false

theorem readE_errP {op r n : Int} {s : Ip} (h : s.err ≠ 0) : readE op r n s = (Mi0, s) := by
  have hd : dE op r s = (0, s) := optE_err h
  have ha : aE op r s = (0, s) := by unfold aE; rw [hd]; exact optE_err h
  have hb : bE op r s = (0, s) := by unfold bE; rw [ha]; exact optE_err h
  have hi : iE op r s = (0, s) := by unfold iE; rw [hb]; exact immE_err h
  exact readE_i (by rw [hi]) h

theorem readE_lt {op r n : Int} {s : Ip} (h : op ≠ 18) : readE op r n s = (if (iE op r s).2.err ≠ 0 then Mi0 else ⟨op, (dE op r s).1, (aE op r s).1, (bE op r s).1, (iE op r s).1, 0, 0⟩, (iE op r s).2) := by
  have h8 : (op == 18) = false := beq_eq_false_iff_ne.2 h
  have hx : xE op r n s = (0, (iE op r s).2) := by unfold xE; rw [h8]; exact if_neg fun hh => by cases hh.1
  have hy : yE op r n s = (0, (iE op r s).2) := by unfold yE; rw [h8, hx]; exact if_neg fun hh => by cases hh.1
  have hz : zE op r n s = (iE op r s).2 := by unfold zE; rw [h8, hy]; exact if_neg fun hh => by cases hh.1
  unfold readE
  rw [hz, hx, hy]
  split <;> rfl

theorem readE_18 {r n : Int} {s : Ip} {tx ty : Int × Ip} (hx : locE r n s = tx) (hy : locE r n tx.2 = ty) : readE 18 r n s = (if (twoE true tx.1 ty.1 ty.2).err ≠ 0 then Mi0 else ⟨18, 0, 0, 0, 0, tx.1, ty.1⟩, twoE true tx.1 ty.1 ty.2) := by
  have hd : dE 18 r s = (0, s) := rfl
  have ha : aE 18 r s = (0, s) := rfl
  have hb : bE 18 r s = (0, s) := rfl
  have hi : iE 18 r s = (0, s) := by
    show immE false s = (0, s)
    exact if_neg fun hh => by cases hh.1
  have hx' : xE 18 r n s = tx := by unfold xE; rw [hi, show ((18 : Int) == 18) = true from rfl, olocE_true, hx]
  have hy' : yE 18 r n s = ty := by unfold yE; rw [hx', show ((18 : Int) == 18) = true from rfl, olocE_true, hy]
  have hz : zE 18 r n s = twoE true tx.1 ty.1 ty.2 := by unfold zE; rw [hx', hy']; rfl
  unfold readE
  rw [hz, hd, ha, hb, hi, hx', hy']
  split <;> rfl

theorem firstE_rng {most nt why : Int} {s : Ip} (h : 0 ≤ most) : 0 ≤ (firstE most nt why s).1 ∧ (firstE most nt why s).1 ≤ most := by
  obtain ⟨l, e⟩ := s
  unfold firstE
  split
  · exact ⟨Int.le_refl _, h⟩
  · rcases l with _ | ⟨x, r⟩
    · exact ⟨Int.le_refl _, h⟩
    · dsimp only
      split
      · exact ⟨Int.le_refl _, h⟩
      · exact ⟨by dsimp only; omega, by dsimp only; omega⟩

theorem instrE_eq {r : Int} {s : Ip} : instrE r s = readE (firstE 17 0 8 s).1 r 0 (firstE 17 0 8 s).2 := by
  unfold instrE
  split
  · rename_i h; exact (readE_errP h).symm
  · rfl

theorem machE_eq {r n : Int} {s : Ip} : machE r n s = readE (firstE 18 2 8 s).1 r n (firstE 18 2 8 s).2 := by
  unfold machE
  split
  · rename_i h; exact (readE_errP h).symm
  · rfl

section
variable {w : World} {lo p : Nat} {l : List Nat} {A : Option Addr} {c : Nat} {s : Ip}

end

/-- What Instr, Mach and Term carry: the result's block. -/
structure GZ (w : World) (lo p : Nat) (l : List Nat) (A : Option Addr) (c : Nat) (t : Ip) (T : TypeId) (zs : Array Value) (z : Nat) (W : World) : Prop where
  md : Mods (Is p) w W
  ce : CE lo p l A c t W
  z_ : Row W z T zs
  pw : p < w.heap.size
  wz : w.heap.size ≤ z

section
variable {w : World} {lo p : Nat} {l : List Nat} {A : Option Addr} {c : Nat} {t t' : Ip} {T : TypeId} {zs : Array Value} {z : Nat} {W W' : World}

theorem GZ.next (h : GZ w lo p l A c t T zs z W) (hm : Mods (Is p) W W') (hc : CE lo p l A c t' W') : GZ w lo p l A c t' T zs z W' := by
  obtain ⟨md, ce, z_, pw, wz⟩ := h
  exact ⟨md.trans hm, hc, z_.mods hm (fun hh => by unfold Is at hh; omega), pw, wz⟩

theorem GZ.below (h : GZ w lo p l A c t T zs z W) (hb : Below W.heap.size W W') : GZ w lo p l A c t T zs z W' :=
  h.next (Mods.of_below hb) (h.ce.mods (S := No) (Mods.of_below hb) fun _ hk => hk.elim)

theorem GZ.fin (h : GZ w lo p l A c t T zs z W) (hm : Mods (Is z) W W') : Mods (Is p) w W' ∧ CE lo p l A c t W' := by
  obtain ⟨md, ce, z_, pw, wz⟩ := h
  exact ⟨md.then hm fun q hq => .inr (by unfold Is at hq; omega), ce.mods hm fun q hq => .inr (by unfold Is at hq; omega)⟩

theorem GZ.new (h : CE lo p l A c t w) (T : TypeId) (zs : Array Value) : GZ w lo p l A c t T zs w.heap.size (w.alloc (.cells zs T)) :=
  ⟨(Mods.refl _ _).alloc _, h.alloc _, Row.new _ _ _, h.lt, Nat.le_refl _⟩

end

end Go.Proofs.Ythehcdajedaefaa

/-
  The program of layer 17: Term; what the three readings leave (made by wip/lab/genicpgf.py).
-/
namespace Go.Proofs.Ythehcdajedaefaa
open Go.RowKit
set_option linter.unusedVariables false
set_option linter.unusedSimpArgs false

section
variable {w : World} {lo p : Nat} {l : List Nat} {A : Option Addr} {c : Nat} {t t' : Ip} {r n : Int} {b0 b1 b2 : Bool} {z s k x q y j : Nat} {v0 v1 v2 v3 : Int} {W W' : World}

end

/-- What a reading leaves. -/
def Rin (lo p : Nat) (l : List Nat) (A : Option Addr) (c : Nat) (v : Array Value) (t : Ip) (w : World) (e : Ending) (w' : World) : Prop :=
  e = .returned (.agg v) ∧ Mods (Is p) w w' ∧ ∃ i', Cur w' lo p l i' t.err A c ∧ (t.err = 0 → l.drop i' = t.rest)

section
variable {w : World} {lo p : Nat} {l : List Nat} {i : Nat} {er : Int} {A : Option Addr} {c : Nat}

end

end Go.Proofs.Ythehcdajedaefaa
