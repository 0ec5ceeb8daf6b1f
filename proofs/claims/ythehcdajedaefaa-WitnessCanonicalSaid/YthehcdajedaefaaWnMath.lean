/-
  What layer 19 reads and writes, as functions on data; what has been read is valid and is encoded as it was.
-/
import Derived.Test.YthehcdajedaefaaPk4
import Derived.Test.YthehcdajedaefaaEdMath
namespace Go.Proofs.Ythehcdajedaefaa
open Go.RowKit
set_option linter.unusedVariables false

/-- A pair behind another one (or the first one): its register's step, its location's number, its location. -/
def pdvE (vr : Int) (q : Pr) (s : Ip) : Int × Ip := numE (vr - q.1) 9 s

def pdlE (vr : Int) (q : Pr) (s : Ip) : Int × Ip := numE 4611686018427387904 10 (pdvE vr q s).2

def plE (vr : Int) (f : Bool) (q : Pr) (s : Ip) : Int := if f = false ∧ (pdvE vr q s).1 = 0 then q.2 + 1 + (pdlE vr q s).1 else (pdlE vr q s).1

def pairE (vr r n : Int) (f : Bool) (q : Pr) (s : Ip) : Pr × Ip :=
  ((q.1 + (pdvE vr q s).1, plE vr f q s), if (pdlE vr q s).2.err = 0 ∧ locS (plE vr f q s) r n = false then failE 10 (pdlE vr q s).2 else (pdlE vr q s).2)

def prsE (vr r n : Int) : Nat → Bool → Pr → Ip → List Pr × Ip
  | 0, _, _, s => ([], s)
  | k + 1, f, q, s => if s.err ≠ 0 then ([], s) else
    ((pairE vr r n f q s).1 :: (prsE vr r n k false (pairE vr r n f q s).1 (pairE vr r n f q s).2).1, (prsE vr r n k false (pairE vr r n f q s).1 (pairE vr r n f q s).2).2)

/-- The number of an invariant's pairs, behind so many. -/
def icE (tot : Int) (s : Ip) : Int × Ip := ((cntE 2 s).1, if 1048576 < tot + (cntE 2 s).1 then failE 6 (cntE 2 s).2 else (cntE 2 s).2)

def ivE (vr r n tot : Int) (s : Ip) : List Pr × Ip := prsE vr r n (icE tot s).1.toNat true (0, 0) (icE tot s).2

def ivsE (vr r n : Int) : Nat → Int → Ip → List (List Pr) × Ip
  | 0, _, s => ([], s)
  | m + 1, tot, s => if s.err ≠ 0 then ([], s) else
    ((ivE vr r n tot s).1 :: (ivsE vr r n m (tot + (icE tot s).1) (ivE vr r n tot s).2).1, (ivsE vr r n m (tot + (icE tot s).1) (ivE vr r n tot s).2).2)

def getE19 (vr r n : Int) (m : Nat) (s : Ip) : List (List Pr) × Ip := if (ivsE vr r n m 0 s).2.err ≠ 0 then ([], (ivsE vr r n m 0 s).2) else ivsE vr r n m 0 s

/-- What is written. -/
def encP19 (f : Bool) (q p : Pr) : List Nat := putS (p.1 - q.1).toNat ++ putS (if f = false ∧ p.1 - q.1 = 0 then p.2 - q.2 - 1 else p.2).toNat

def encPs19 : Bool → Pr → List Pr → List Nat
  | _, _, [] => []
  | f, q, p :: r => encP19 f q p ++ encPs19 false p r

def encIv (l : List Pr) : List Nat := putS l.length ++ encPs19 true (0, 0) l

def encW19 (w : List (List Pr)) : List Nat := w.flatMap encIv

theorem pdvE_err {vr : Int} {q : Pr} {s : Ip} (h : s.err ≠ 0) : pdvE vr q s = (0, s) := numE_err h

theorem pdlE_err {vr : Int} {q : Pr} {s : Ip} (h : s.err ≠ 0) : pdlE vr q s = (0, s) := by unfold pdlE; rw [pdvE_err h]; exact numE_err h

theorem prsE_err {vr r n : Int} {k : Nat} {f : Bool} {q : Pr} {s : Ip} (h : s.err ≠ 0) : prsE vr r n k f q s = ([], s) := by
  cases k with
  | zero => rfl
  | succ k => exact if_pos h

theorem ivsE_err {vr r n tot : Int} {m : Nat} {s : Ip} (h : s.err ≠ 0) : ivsE vr r n m tot s = ([], s) := by
  cases m with
  | zero => rfl
  | succ m => exact if_pos h

theorem icE_err {tot : Int} {s : Ip} (h : s.err ≠ 0) : icE tot s = (0, s) := by
  unfold icE
  rw [cntE_err h]
  dsimp only
  rw [failE_keep h]
  split <;> rfl

/-- Where a pair stands: behind another one whose numbers are in range, or first. -/
def PosP (vr : Int) (f : Bool) (q : Pr) : Prop := (f = true ∧ q = (0, 0)) ∨ (f = false ∧ 0 ≤ q.1 ∧ q.1 < vr ∧ 0 ≤ q.2)

def behP (f : Bool) (q : Pr) : Option Pr := if f then none else some q

theorem locS_ge {l r s : Int} (h : locS l r s = true) : 0 ≤ l := locS_nn h

/-- A pair that has been read. -/
theorem pairE_ok {vr r n : Int} {f : Bool} {q : Pr} {s : Ip} (hq : PosP vr f q) (hb : Byt s.rest) (h : (pairE vr r n f q s).2.err = 0) :
    s.err = 0 ∧ prE vr r n (behP f q) (pairE vr r n f q s).1 = 0 ∧ PosP vr false (pairE vr r n f q s).1 ∧ s.rest = encP19 f q (pairE vr r n f q s).1 ++ (pairE vr r n f q s).2.rest := by
  have hz : (pdlE vr q s).2.err = 0 := by
    by_cases h9 : (pdlE vr q s).2.err = 0
    · exact h9
    · unfold pairE at h
      dsimp only at h
      rw [if_neg (fun hh => h9 hh.1)] at h
      exact absurd h h9
  have hl : locS (plE vr f q s) r n = true := by
    cases h9 : locS (plE vr f q s) r n
    · unfold pairE at h
      dsimp only at h
      rw [if_pos ⟨hz, h9⟩] at h
      exact absurd h (failE_err (by decide))
    · rfl
  have he : (pairE vr r n f q s).2 = (pdlE vr q s).2 := if_neg (fun hh => by rw [hl] at hh; exact absurd hh.2 (by decide))
  rw [he]
  have hv : (pdvE vr q s).2.err = 0 := by
    by_cases h9 : (pdvE vr q s).2.err = 0
    · exact h9
    · unfold pdlE at hz; rw [numE_err h9] at hz; exact hz
  obtain ⟨v1, v2, v3, _, v5⟩ := numE_ok (bd := vr - q.1) (why := 9) hb (by decide) hv
  have hb2 : Byt (pdvE vr q s).2.rest := hb.right v5
  obtain ⟨_, d2, d3, _, d5⟩ := numE_ok (bd := 4611686018427387904) (why := 10) hb2 (by decide) hz
  have hl0 := locS_ge hl
  have v2' : 0 ≤ (pdvE vr q s).1 := v2
  have v3' : (pdvE vr q s).1 < vr - q.1 := v3
  have d2' : 0 ≤ (pdlE vr q s).1 := d2
  refine ⟨v1, ?_, ?_, ?_⟩
  · show prE vr r n (behP f q) (q.1 + (pdvE vr q s).1, plE vr f q s) = 0
    unfold prE
    dsimp only
    rcases hq with ⟨rfl, rfl⟩ | ⟨rfl, q1, q2, q3⟩
    · rw [if_neg (by dsimp only; dsimp only at v3'; omega), if_neg (by rw [hl]; decide)]
      rfl
    · rw [if_neg (by omega), if_neg (by rw [hl]; decide)]
      show (if ltP q (q.1 + (pdvE vr q s).1, plE vr false q s) = true then (0 : Int) else 13) = 0
      rw [if_pos]
      rw [ltP_iff]
      dsimp only
      by_cases h0 : (pdvE vr q s).1 = 0
      · right
        refine ⟨by omega, ?_⟩
        unfold plE
        rw [if_pos ⟨rfl, h0⟩]
        omega
      · left
        omega
  · right
    refine ⟨rfl, ?_, ?_, hl0⟩
    · show 0 ≤ q.1 + (pdvE vr q s).1
      rcases hq with ⟨_, rfl⟩ | ⟨_, q1, _, _⟩
      · dsimp only; omega
      · omega
    · show q.1 + (pdvE vr q s).1 < vr
      omega
  · have e1 : encP19 f q (pairE vr r n f q s).1 = putS (pdvE vr q s).1.toNat ++ putS (pdlE vr q s).1.toNat := by
      unfold encP19
      show putS (q.1 + (pdvE vr q s).1 - q.1).toNat ++ putS (if f = false ∧ q.1 + (pdvE vr q s).1 - q.1 = 0 then plE vr f q s - q.2 - 1 else plE vr f q s).toNat = _
      rw [show q.1 + (pdvE vr q s).1 - q.1 = (pdvE vr q s).1 by omega]
      unfold plE
      by_cases h0 : f = false ∧ (pdvE vr q s).1 = 0
      · rw [if_pos h0, if_pos h0, show q.2 + 1 + (pdlE vr q s).1 - q.2 - 1 = (pdlE vr q s).1 by omega]
      · rw [if_neg h0, if_neg h0]
    rw [e1, List.append_assoc]
    have v5' : s.rest = putS (pdvE vr q s).1.toNat ++ (pdvE vr q s).2.rest := v5
    have d5' : (pdvE vr q s).2.rest = putS (pdlE vr q s).1.toNat ++ (pdlE vr q s).2.rest := d5
    rw [← d5']
    exact v5'

theorem prsE_ok {vr r n : Int} : ∀ (k : Nat) (f : Bool) (q : Pr) (s : Ip), PosP vr f q → Byt s.rest → (prsE vr r n k f q s).2.err = 0 →
    s.err = 0 ∧ (prsE vr r n k f q s).1.length = k ∧ vlE vr r n (behP f q) (prsE vr r n k f q s).1 = 0 ∧ s.rest = encPs19 f q (prsE vr r n k f q s).1 ++ (prsE vr r n k f q s).2.rest
  | 0, f, q, s, _, hb, h => ⟨h, rfl, rfl, rfl⟩
  | k + 1, f, q, s, hq, hb, h => by
    have h0 : s.err = 0 := by
      by_cases h9 : s.err = 0
      · exact h9
      · rw [prsE_err h9] at h; exact h
    have e : prsE vr r n (k + 1) f q s = ((pairE vr r n f q s).1 :: (prsE vr r n k false (pairE vr r n f q s).1 (pairE vr r n f q s).2).1, (prsE vr r n k false (pairE vr r n f q s).1 (pairE vr r n f q s).2).2) := if_neg fun hh => hh h0
    rw [e] at h ⊢
    dsimp only at h ⊢
    have hi : (pairE vr r n f q s).2.err = 0 := by
      by_cases h9 : (pairE vr r n f q s).2.err = 0
      · exact h9
      · rw [prsE_err h9] at h; exact h
    obtain ⟨_, g1, g2, g3⟩ := pairE_ok hq hb hi
    obtain ⟨_, i2, i3, i4⟩ := prsE_ok k false _ _ g2 (hb.right g3) h
    refine ⟨h0, by rw [List.length_cons, i2], ?_, ?_⟩
    · rw [vlE, g1, if_neg (by simp)]
      exact i3
    · show s.rest = (encP19 f q _ ++ encPs19 false _ _) ++ _
      rw [List.append_assoc, ← i4]
      exact g3

theorem icE_ok {tot : Int} {s : Ip} (hb : Byt s.rest) (h : (icE tot s).2.err = 0) : s.err = 0 ∧ 0 ≤ (icE tot s).1 ∧ tot + (icE tot s).1 ≤ 1048576 ∧ s.rest = putS (icE tot s).1.toNat ++ (icE tot s).2.rest := by
  unfold icE at *
  dsimp only at *
  by_cases h0 : 1048576 < tot + (cntE 2 s).1
  · rw [if_pos h0] at h
    exact absurd h (failE_err (by decide))
  · rw [if_neg h0] at *
    obtain ⟨h1, h2, h3, h4, _⟩ := cntE_ok hb h
    exact ⟨h1, h2, by omega, h4⟩

theorem ivsE_ok {vr r n : Int} : ∀ (m : Nat) (tot : Int) (s : Ip), Byt s.rest → (ivsE vr r n m tot s).2.err = 0 →
    s.err = 0 ∧ (ivsE vr r n m tot s).1.length = m ∧ vlsE vr r n (ivsE vr r n m tot s).1 = 0 ∧ s.rest = encW19 (ivsE vr r n m tot s).1 ++ (ivsE vr r n m tot s).2.rest
  | 0, tot, s, hb, h => ⟨h, rfl, rfl, rfl⟩
  | m + 1, tot, s, hb, h => by
    have h0 : s.err = 0 := by
      by_cases h9 : s.err = 0
      · exact h9
      · rw [ivsE_err h9] at h; exact h
    have e : ivsE vr r n (m + 1) tot s = ((ivE vr r n tot s).1 :: (ivsE vr r n m (tot + (icE tot s).1) (ivE vr r n tot s).2).1, (ivsE vr r n m (tot + (icE tot s).1) (ivE vr r n tot s).2).2) := if_neg fun hh => hh h0
    rw [e] at h ⊢
    dsimp only at h ⊢
    have hi : (ivE vr r n tot s).2.err = 0 := by
      by_cases h9 : (ivE vr r n tot s).2.err = 0
      · exact h9
      · rw [ivsE_err h9] at h; exact h
    have hc : (icE tot s).2.err = 0 := by
      by_cases h9 : (icE tot s).2.err = 0
      · exact h9
      · unfold ivE at hi; rw [prsE_err h9] at hi; exact hi
    obtain ⟨_, c2, c3, c4⟩ := icE_ok hb hc
    have b1 := hb.right c4
    obtain ⟨_, p2, p3, p4⟩ := prsE_ok (vr := vr) (r := r) (n := n) (icE tot s).1.toNat true (0, 0) (icE tot s).2 (.inl ⟨rfl, rfl⟩) b1 hi
    obtain ⟨_, k2, k3, k4⟩ := ivsE_ok m (tot + (icE tot s).1) (ivE vr r n tot s).2 (b1.right p4) h
    refine ⟨h0, by rw [List.length_cons, k2], ?_, ?_⟩
    · have p3' : vlE vr r n none (ivE vr r n tot s).1 = 0 := p3
      rw [vlsE, p3', if_neg (by simp)]
      exact k3
    · show s.rest = (encIv _ ++ encW19 _) ++ _
      rw [List.append_assoc, ← k4]
      unfold encIv
      have p2' : (ivE vr r n tot s).1.length = (icE tot s).1.toNat := p2
      have p4' : (icE tot s).2.rest = encPs19 true (0, 0) (ivE vr r n tot s).1 ++ (ivE vr r n tot s).2.rest := p4
      rw [p2', List.append_assoc, ← p4']
      exact c4

/-- What Get gives, where it gives anything. -/
theorem getE19_ok {vr r n : Int} {m : Nat} {s : Ip} (hb : Byt s.rest) (h : (getE19 vr r n m s).2.err = 0) : s.err = 0 ∧ validE (getE19 vr r n m s).1 m vr r n = 0 ∧ s.rest = encW19 (getE19 vr r n m s).1 ++ (getE19 vr r n m s).2.rest := by
  unfold getE19 at *
  by_cases h9 : (ivsE vr r n m 0 s).2.err ≠ 0
  · rw [if_pos h9] at h
    exact absurd h h9
  · rw [if_neg h9] at *
    obtain ⟨h1, h2, h3, h4⟩ := ivsE_ok m 0 s hb h
    exact ⟨h1, by unfold validE; rw [if_neg (by rw [h2]; simp)]; exact h3, h4⟩

theorem getE19_bad {vr r n : Int} {m : Nat} {s : Ip} (h : (getE19 vr r n m s).2.err ≠ 0) : (getE19 vr r n m s).1 = [] := by
  unfold getE19 at *
  by_cases h9 : (ivsE vr r n m 0 s).2.err ≠ 0
  · rw [if_pos h9]
  · rw [if_neg h9] at h
    exact absurd h h9

end Go.Proofs.Ythehcdajedaefaa
