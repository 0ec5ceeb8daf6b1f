/-
  The program of layer 18: the cursor's numbers and counts as data; getNumber, failIf.
-/
import Derived.Test.YtkapmfopfddmbaaPk5
import Derived.Test.YtkapmfopfddmbaaPk4
namespace Go.Proofs.Ytkapmfopfddmbaa
open Go.RowKit
set_option linter.unusedVariables false
set_option linter.unusedSimpArgs false

def stepT (t : Ip) (r : Nat × Nat × Nat) : Ip := if t.err ≠ 0 then t else if r.2.2 ≠ 0 then ⟨[], (r.2.2 : Int)⟩ else ⟨t.rest.drop r.2.1, 0⟩

section
variable {w w' : World} {lo p : Nat} {l : List Nat} {A : Option Addr} {c : Nat} {t : Ip}

theorem after_ce {i : Nat} (f : List Nat → Nat × Nat × Nat) (hr : t.err = 0 → l.drop i = t.rest) (ha : After w lo p l i t.err A c (f (l.drop i)) w') : Mods (Is p) w w' ∧ CE lo p l A c (stepT t (f t.rest)) w' ∧ stepV t.err (f (l.drop i)) = stepV t.err (f t.rest) := by
  obtain ⟨hm, hc⟩ := ha
  by_cases h0 : t.err = 0
  · rw [hr h0] at hc ⊢
    refine ⟨hm, ?_, rfl⟩
    by_cases h1 : (f t.rest).2.2 = 0
    · have hT : stepT t (f t.rest) = ⟨t.rest.drop (f t.rest).2.1, 0⟩ := by unfold stepT; rw [if_neg (by omega), if_neg (by omega)]
      refine ⟨i + (f t.rest).2.1, ?_, fun _ => ?_⟩
      · rw [hT]
        rw [stepI, if_pos ⟨h0, h1⟩, stepE, if_pos h0, h1] at hc
        exact hc
      · rw [hT, ← List.drop_drop, hr h0]
    · have hT : stepT t (f t.rest) = ⟨[], ((f t.rest).2.2 : Int)⟩ := by unfold stepT; rw [if_neg (by omega), if_pos h1]
      refine ⟨i, ?_, fun h => absurd h (by rw [hT]; simp only; omega)⟩
      rw [hT]
      rw [stepI, if_neg fun h => h1 h.2, stepE, if_pos h0] at hc
      exact hc
  · have hT : ∀ r, stepT t r = t := fun r => by unfold stepT; rw [if_pos h0]
    refine ⟨hm, ?_, by rw [stepV, if_neg fun h => h0 h.1, stepV, if_neg fun h => h0 h.1]⟩
    rw [hT]
    refine ⟨i, ?_, fun h => absurd h h0⟩
    rw [stepI, if_neg fun h => h0 h.1, stepE, if_neg h0] at hc
    exact hc

theorem size_step : ((stepV t.err (uintS 1048576 t.rest) : Nat) : Int) = (sizeE t).1 ∧ stepT t (uintS 1048576 t.rest) = (sizeE t).2 := by
  unfold sizeE
  by_cases h0 : t.err = 0
  · by_cases h1 : (getS t.rest).2.2 = 0
    · rw [numE_good h0 h1]
      by_cases h2 : (1048576 : Int) < ((getS t.rest).1 : Int)
      · have hu : uintS 1048576 t.rest = (0, 0, 6) := if_pos ⟨h1, h2⟩
        rw [hu, if_pos (by omega)]
        refine ⟨by rw [stepV]; split <;> rfl, ?_⟩
        unfold stepT
        rw [if_neg (by omega), if_pos (by decide)]
        rfl
      · have hu : uintS 1048576 t.rest = getS t.rest := if_neg fun h => h2 h.2
        rw [hu, if_neg (by omega)]
        refine ⟨by rw [stepV, if_pos ⟨h0, h1⟩], ?_⟩
        unfold stepT
        rw [if_neg (by omega), if_neg (by omega)]
    · have hu : uintS 1048576 t.rest = getS t.rest := if_neg fun h => h1 h.1
      rw [numE_bad h0 h1, hu]
      refine ⟨by rw [stepV, if_neg fun h => h1 h.2]; rfl, ?_⟩
      unfold stepT
      rw [if_neg (by omega), if_pos h1]
  · rw [numE_err h0]
    refine ⟨by rw [stepV, if_neg fun h => h0 h.1]; rfl, ?_⟩
    unfold stepT
    rw [if_pos h0]

theorem cnt_step {k : Int} (hk : 0 < k) : ((stepV t.err (countS 1048576 k t.rest) : Nat) : Int) = (cntE k t).1 ∧ stepT t (countS 1048576 k t.rest) = (cntE k t).2 := by
  obtain ⟨s1, s2⟩ := size_step (t := t)
  unfold cntE
  have hc : countS 1048576 k t.rest = if (uintS 1048576 t.rest).2.2 = 0 ∧ 0 < k ∧ ((t.rest.length : Int) - (uintS 1048576 t.rest).2.1) / k < ((uintS 1048576 t.rest).1 : Int) then (0, 0, 1) else uintS 1048576 t.rest := if_neg (by omega)
  have hlen := uintS_len 1048576 t.rest
  obtain ⟨⟨sv, st⟩, hs⟩ : ∃ y, y = sizeE t := ⟨_, rfl⟩
  rw [← hs] at s1 s2 ⊢
  dsimp only at s1 s2 ⊢
  subst s1 s2
  rw [hc]
  clear hs hc
  generalize uintS 1048576 t.rest = r at *
  by_cases h0 : t.err = 0
  · by_cases h1 : r.2.2 = 0
    · have hT : stepT t r = ⟨t.rest.drop r.2.1, 0⟩ := by unfold stepT; rw [if_neg (by omega), if_neg (by omega)]
      have hV : stepV t.err r = r.1 := by rw [stepV, if_pos ⟨h0, h1⟩]
      have hl : (((stepT t r).rest.length : Nat) : Int) = (t.rest.length : Int) - r.2.1 := by rw [hT]; simp only [List.length_drop]; omega
      have he : (stepT t r).err = 0 := by rw [hT]
      rw [hl, hV]
      by_cases h2 : ((t.rest.length : Int) - r.2.1) / k < (r.1 : Int)
      · rw [if_pos ⟨h1, hk, h2⟩, if_pos ⟨he, h2⟩]
        refine ⟨by rw [stepV]; split <;> rfl, ?_⟩
        have e1 : stepT t (0, 0, 1) = ⟨[], 1⟩ := by unfold stepT; rw [if_neg (by omega), if_pos (by decide)]; rfl
        have e2 : failE 1 (stepT t r) = ⟨[], 1⟩ := if_neg fun h => h he
        rw [e1, e2]
      · rw [if_neg fun h => h2 h.2.2, if_neg fun h => h2 h.2]
        exact ⟨by rw [hV], hT ▸ rfl⟩
    · have hT : stepT t r = ⟨[], (r.2.2 : Int)⟩ := by unfold stepT; rw [if_neg (by omega), if_pos h1]
      rw [if_neg fun h => h1 h.1, if_neg fun h => h1 (by have := h.1; rw [hT] at this; simp only at this; omega)]
      exact ⟨rfl, rfl⟩
  · have hT : ∀ q, stepT t q = t := fun q => by unfold stepT; rw [if_pos h0]
    have hV : ∀ q, stepV t.err q = 0 := fun q => by rw [stepV, if_neg fun h => h0 h.1]
    have e3 : ¬ ((stepT t r).err = 0 ∧ ((stepT t r).rest.length : Int) / k < ((stepV t.err r : Nat) : Int)) := fun h => h0 (by rw [← hT r]; exact h.1)
    rw [if_neg e3, hT, hT]
    exact ⟨by rw [hV, hV], rfl⟩

theorem size_ce (h : CE lo p l A c t w) : Calls Try.prog 40 #[.pointer (some ⟨p, 0, none⟩), .int .u64 1048576] w fun e w' => e = .returned (.int .u64 (sizeE t).1) ∧ Mods (Is p) w w' ∧ CE lo p l A c (sizeE t).2 w' := by
  obtain ⟨i, hc, hr⟩ := h
  refine (uint_any hc 1048576 (by decide)).mono ?_
  rintro e w' ⟨rfl, ha⟩
  obtain ⟨hm, h1, h2⟩ := after_ce (uintS 1048576) hr ha
  obtain ⟨s1, s2⟩ := size_step (t := t)
  rw [h2, s1]
  exact ⟨rfl, hm, by rw [← s2]; exact h1⟩

theorem count_ce (h : CE lo p l A c t w) (k : Int) (hk : 0 < k) (hk2 : k ≤ 100) : Calls Try.prog 70 #[.pointer (some ⟨p, 0, none⟩), .int .i64 1048576, .int .i64 k] w fun e w' => e = .returned (.int .i64 (cntE k t).1) ∧ Mods (Is p) w w' ∧ CE lo p l A c (cntE k t).2 w' := by
  obtain ⟨i, hc, hr⟩ := h
  refine (count_any hc 1048576 k (by decide) (by omega)).mono ?_
  rintro e w' ⟨rfl, ha⟩
  obtain ⟨hm, h1, h2⟩ := after_ce (countS 1048576 k) hr ha
  obtain ⟨s1, s2⟩ := cnt_step (t := t) hk
  rw [h2, s1]
  exact ⟨rfl, hm, by rw [← s2]; exact h1⟩

theorem fail_ceE (h : CE lo p l A c t w) (x : Int) (hx : x ≠ 0) : Calls Try.prog 57 #[.pointer (some ⟨p, 0, none⟩), .int .i64 x] w fun e w' => e = .returned (.tuple #[]) ∧ Mods (Is p) w w' ∧ CE lo p l A c (failE x t) w' := by
  have he : failT x t = failE x t := by
    unfold failT failE
    by_cases h0 : t.err = 0
    · rw [if_pos h0, if_neg fun h => h h0]
    · rw [if_neg h0, if_pos h0]
  rw [← he]
  exact fail_ce h x hx

theorem err_ce (h : CE lo p l A c t w) : Calls Try.prog 39 #[.pointer (some ⟨p, 0, none⟩)] w fun e w' => e = .returned (.int .i64 t.err) ∧ w = w' := by
  obtain ⟨i, hc, _⟩ := h
  exact err_any hc

end

theorem nblkE_rgP {s : Ip} : 0 ≤ (nblkE s).1 ∧ (nblkE s).1 ≤ 1048576 := by
  unfold nblkE
  split
  · exact ⟨Int.le_refl _, (by show (0 : Int) ≤ 1048576; decide)⟩
  · exact cntE_rng

theorem codeE_rgP {tot : Int} {s : Ip} (ht : tot ≤ 1048576) : 0 ≤ (codeE tot s).1 ∧ tot + (codeE tot s).1 ≤ 1048576 := by
  unfold codeE
  split
  · exact ⟨Int.le_refl _, (by show tot + 0 ≤ 1048576; omega)⟩
  · exact ⟨cntE_rng.1, by omega⟩

theorem insE_lenP {r : Int} : ∀ (k : Nat) (s : Ip), (insE r k s).1.length ≤ k ∧ ((insE r k s).2.err = 0 → (insE r k s).1.length = k)
  | 0, s => ⟨Nat.le_refl _, fun _ => rfl⟩
  | k + 1, s => by
    by_cases h0 : s.err = 0
    · have e : insE r (k + 1) s = ((instrE r s).1.ins :: (insE r k (instrE r s).2).1, (insE r k (instrE r s).2).2) := if_neg fun hh => hh h0
      obtain ⟨h1, h2⟩ := insE_lenP k (instrE r s).2
      rw [e]
      exact ⟨Nat.succ_le_succ h1, fun h => congrArg Nat.succ (h2 h)⟩
    · rw [insE_err h0]
      exact ⟨Nat.zero_le _, fun h => absurd h h0⟩

theorem miE_lenP {r n : Int} : ∀ (k run : Nat) (s : Ip), (miE r n k run s).1.length ≤ k ∧ ((miE r n k run s).2.err = 0 → (miE r n k run s).1.length = k)
  | 0, run, s => ⟨Nat.le_refl _, fun _ => rfl⟩
  | k + 1, run, s => by
    by_cases h0 : s.err = 0
    · have e : miE r n (k + 1) run s = ((machE r n s).1 :: (miE r n k (ext run (machE r n s).1) (mvE run (machE r n s).1 (machE r n s).2)).1, (miE r n k (ext run (machE r n s).1) (mvE run (machE r n s).1 (machE r n s).2)).2) := if_neg fun hh => hh h0
      obtain ⟨h1, h2⟩ := miE_lenP k (ext run (machE r n s).1) (mvE run (machE r n s).1 (machE r n s).2)
      rw [e]
      exact ⟨Nat.succ_le_succ h1, fun h => congrArg Nat.succ (h2 h)⟩
    · rw [miE_err h0]
      exact ⟨Nat.zero_le _, fun h => absurd h h0⟩

/-- A block has been read: how many instructions, and what is left to read. -/
theorem blk_roomP {r n tot : Int} {s : Ip} (ht : 0 ≤ tot ∧ tot ≤ 1048576) : tot + ((blkI r tot s).1.length : Int) ≤ 1048576 ∧ ∀ g, blksE r n g (tot + blkK tot s) (blkT r n tot s).2 = blksE r n g (tot + ((blkI r tot s).1.length : Int)) (blkT r n tot s).2 := by
  have h1 := codeE_rgP (tot := tot) (s := s) ht.2
  obtain ⟨h2, h3⟩ := insE_lenP (r := r) (codeE tot s).1.toNat (codeE tot s).2
  refine ⟨?_, fun g => ?_⟩
  · unfold blkI
    omega
  · by_cases h0 : (blkT r n tot s).2.err = 0
    · have h4 : (blkI r tot s).2.err = 0 := by
        by_cases h9 : (blkI r tot s).2.err = 0
        · exact h9
        · unfold blkT at h0; rw [termE_err h9] at h0; exact h0
      have h5 := h3 h4
      rw [show blkK tot s = ((blkI r tot s).1.length : Int) by unfold blkK blkI; omega]
    · rw [blksE_err h0, blksE_err h0]

theorem mblk_roomP {r sl n tot : Int} {s : Ip} (ht : 0 ≤ tot ∧ tot ≤ 1048576) : tot + ((mblkI r sl tot s).1.length : Int) ≤ 1048576 ∧ ∀ g, mblksE r sl n g (tot + blkK tot s) (mblkT r sl n tot s).2 = mblksE r sl n g (tot + ((mblkI r sl tot s).1.length : Int)) (mblkT r sl n tot s).2 := by
  have h1 := codeE_rgP (tot := tot) (s := s) ht.2
  obtain ⟨h2, h3⟩ := miE_lenP (r := r) (n := sl) (codeE tot s).1.toNat 0 (codeE tot s).2
  refine ⟨?_, fun g => ?_⟩
  · unfold mblkI
    omega
  · by_cases h0 : (mblkT r sl n tot s).2.err = 0
    · have h4 : (mblkI r sl tot s).2.err = 0 := by
        by_cases h9 : (mblkI r sl tot s).2.err = 0
        · exact h9
        · unfold mblkT at h0; rw [termE_err h9] at h0; exact h0
      have h5 := h3 h4
      rw [show blkK tot s = ((mblkI r sl tot s).1.length : Int) by unfold blkK mblkI; omega]
    · rw [mblksE_err h0, mblksE_err h0]

end Go.Proofs.Ytkapmfopfddmbaa
