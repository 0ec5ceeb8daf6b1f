import Derived.Test.YtkapmfopfddmbaaGreatPk4
import Derived.Test.YtkapmfopfddmbaaGreatPk15
import Derived.Test.YtkapmfopfddmbaaGreatPk8
import Derived.Deep.Cut
import Derived.Deep.CutRange
import Derived.BigRegion

/-
  What layer 19 reads and writes, as functions on data; what has been read is valid and is encoded as it was.
-/
namespace Go.Proofs.YtkapmfopfddmbaaGreat
open Go.RowKit
set_option linter.unusedVariables false

/-- A pair behind another one (or the first one): its register's step, its location's number, its location. -/
def pdvE (vr : Int) (q : Pr) (s : Ip) : Int × Ip := numE (vr - q.1) 9 s

def pdlE (vr : Int) (q : Pr) (s : Ip) : Int × Ip := numE 4611686018427387904 10 (pdvE vr q s).2

def plE (vr : Int) (f : Bool) (q : Pr) (s : Ip) : Int := if f = false ∧ (pdvE vr q s).1 = 0 then q.2 + 1 + (pdlE vr q s).1 else (pdlE vr q s).1

def pairE (vr r n : Int) (f : Bool) (q : Pr) (s : Ip) : Pr × Ip :=
  ((q.1 + (pdvE vr q s).1, plE vr f q s), if (pdlE vr q s).2.err = 0 ∧ locS (plE vr f q s) r n = false then failE 10 (pdlE vr q s).2 else (pdlE vr q s).2)

def prsE (vr r n : Int) : Nat → Bool → Pr → Ip → List Pr × Ip
  | 0, _, _, s => ([], s)
  | k + 1, f, q, s => if s.err ≠ 0 then ([], s) else
    ((pairE vr r n f q s).1 :: (prsE vr r n k false (pairE vr r n f q s).1 (pairE vr r n f q s).2).1, (prsE vr r n k false (pairE vr r n f q s).1 (pairE vr r n f q s).2).2)

/-- The number of an invariant's pairs, behind so many. -/
def icE (tot : Int) (s : Ip) : Int × Ip := ((cntE 2 s).1, if 1048576 < tot + (cntE 2 s).1 then failE 6 (cntE 2 s).2 else (cntE 2 s).2)

def ivE (vr r n tot : Int) (s : Ip) : List Pr × Ip := prsE vr r n (icE tot s).1.toNat true (0, 0) (icE tot s).2

def ivsE (vr r n : Int) : Nat → Int → Ip → List (List Pr) × Ip
  | 0, _, s => ([], s)
  | m + 1, tot, s => if s.err ≠ 0 then ([], s) else
    ((ivE vr r n tot s).1 :: (ivsE vr r n m (tot + (icE tot s).1) (ivE vr r n tot s).2).1, (ivsE vr r n m (tot + (icE tot s).1) (ivE vr r n tot s).2).2)

def getE19 (vr r n : Int) (m : Nat) (s : Ip) : List (List Pr) × Ip := if (ivsE vr r n m 0 s).2.err ≠ 0 then ([], (ivsE vr r n m 0 s).2) else ivsE vr r n m 0 s

/-- What is written. -/
def encP19 (f : Bool) (q p : Pr) : List Nat := putS (p.1 - q.1).toNat ++ putS (if f = false ∧ p.1 - q.1 = 0 then p.2 - q.2 - 1 else p.2).toNat

def encPs19 : Bool → Pr → List Pr → List Nat
  | _, _, [] => []
  | f, q, p :: r => encP19 f q p ++ encPs19 false p r

def encIv (l : List Pr) : List Nat := putS l.length ++ encPs19 true (0, 0) l

def encW19 (w : List (List Pr)) : List Nat := w.flatMap encIv

theorem pdvE_err {vr : Int} {q : Pr} {s : Ip} (h : s.err ≠ 0) : pdvE vr q s = (0, s) := numE_err h

theorem pdlE_err {vr : Int} {q : Pr} {s : Ip} (h : s.err ≠ 0) : pdlE vr q s = (0, s) := by unfold pdlE; rw [pdvE_err h]; exact numE_err h

theorem prsE_err {vr r n : Int} {k : Nat} {f : Bool} {q : Pr} {s : Ip} (h : s.err ≠ 0) : prsE vr r n k f q s = ([], s) := by
  cases k with
  | zero => rfl
  | succ k => exact if_pos h

theorem ivsE_err {vr r n tot : Int} {m : Nat} {s : Ip} (h : s.err ≠ 0) : ivsE vr r n m tot s = ([], s) := by
  cases m with
  | zero => rfl
  | succ m => exact if_pos h

theorem icE_err {tot : Int} {s : Ip} (h : s.err ≠ 0) : icE tot s = (0, s) := by
  unfold icE
  rw [cntE_err h]
  dsimp only
  rw [failE_keep h]
  split <;> rfl

/-- Where a pair stands: behind another one whose numbers are in range, or first. -/
def PosP (vr : Int) (f : Bool) (q : Pr) : Prop := (f = true ∧ q = (0, 0)) ∨ (f = false ∧ 0 ≤ q.1 ∧ q.1 < vr ∧ 0 ≤ q.2)

def behP (f : Bool) (q : Pr) : Option Pr := if f then none else some q

theorem locS_ge {l r s : Int} (h : locS l r s = true) : 0 ≤ l := locS_nn h

/-- A pair that has been read. -/
theorem pairE_ok {vr r n : Int} {f : Bool} {q : Pr} {s : Ip} (hq : PosP vr f q) (hb : Byt s.rest) (h : (pairE vr r n f q s).2.err = 0) :
    s.err = 0 ∧ prE vr r n (behP f q) (pairE vr r n f q s).1 = 0 ∧ PosP vr false (pairE vr r n f q s).1 ∧ s.rest = encP19 f q (pairE vr r n f q s).1 ++ (pairE vr r n f q s).2.rest := by
  have hz : (pdlE vr q s).2.err = 0 := by
    by_cases h9 : (pdlE vr q s).2.err = 0
    · exact h9
    · unfold pairE at h
      dsimp only at h
      rw [if_neg (fun hh => h9 hh.1)] at h
      exact absurd h h9
  have hl : locS (plE vr f q s) r n = true := by
    cases h9 : locS (plE vr f q s) r n
    · unfold pairE at h
      dsimp only at h
      rw [if_pos ⟨hz, h9⟩] at h
      exact absurd h (failE_err (by decide))
    · rfl
  have he : (pairE vr r n f q s).2 = (pdlE vr q s).2 := if_neg (fun hh => by rw [hl] at hh; exact absurd hh.2 (by decide))
  rw [he]
  have hv : (pdvE vr q s).2.err = 0 := by
    by_cases h9 : (pdvE vr q s).2.err = 0
    · exact h9
    · unfold pdlE at hz; rw [numE_err h9] at hz; exact hz
  obtain ⟨v1, v2, v3, _, v5⟩ := numE_ok (bd := vr - q.1) (why := 9) hb (by decide) hv
  have hb2 : Byt (pdvE vr q s).2.rest := hb.right v5
  obtain ⟨_, d2, d3, _, d5⟩ := numE_ok (bd := 4611686018427387904) (why := 10) hb2 (by decide) hz
  have hl0 := locS_ge hl
  have v2' : 0 ≤ (pdvE vr q s).1 := v2
  have v3' : (pdvE vr q s).1 < vr - q.1 := v3
  have d2' : 0 ≤ (pdlE vr q s).1 := d2
  refine ⟨v1, ?_, ?_, ?_⟩
  · show prE vr r n (behP f q) (q.1 + (pdvE vr q s).1, plE vr f q s) = 0
    unfold prE
    dsimp only
    rcases hq with ⟨rfl, rfl⟩ | ⟨rfl, q1, q2, q3⟩
    · rw [if_neg (by dsimp only; dsimp only at v3'; omega), if_neg (by rw [hl]; decide)]
      rfl
    · rw [if_neg (by omega), if_neg (by rw [hl]; decide)]
      show (if ltP q (q.1 + (pdvE vr q s).1, plE vr false q s) = true then (0 : Int) else 13) = 0
      rw [if_pos]
      rw [ltP_iff]
      dsimp only
      by_cases h0 : (pdvE vr q s).1 = 0
      · right
        refine ⟨by omega, ?_⟩
        unfold plE
        rw [if_pos ⟨rfl, h0⟩]
        omega
      · left
        omega
  · right
    refine ⟨rfl, ?_, ?_, hl0⟩
    · show 0 ≤ q.1 + (pdvE vr q s).1
      rcases hq with ⟨_, rfl⟩ | ⟨_, q1, _, _⟩
      · dsimp only; omega
      · omega
    · show q.1 + (pdvE vr q s).1 < vr
      omega
  · have e1 : encP19 f q (pairE vr r n f q s).1 = putS (pdvE vr q s).1.toNat ++ putS (pdlE vr q s).1.toNat := by
      unfold encP19
      show putS (q.1 + (pdvE vr q s).1 - q.1).toNat ++ putS (if f = false ∧ q.1 + (pdvE vr q s).1 - q.1 = 0 then plE vr f q s - q.2 - 1 else plE vr f q s).toNat = _
      rw [show q.1 + (pdvE vr q s).1 - q.1 = (pdvE vr q s).1 by omega]
      unfold plE
      by_cases h0 : f = false ∧ (pdvE vr q s).1 = 0
      · rw [if_pos h0, if_pos h0, show q.2 + 1 + (pdlE vr q s).1 - q.2 - 1 = (pdlE vr q s).1 by omega]
      · rw [if_neg h0, if_neg h0]
    rw [e1, List.append_assoc]
    have v5' : s.rest = putS (pdvE vr q s).1.toNat ++ (pdvE vr q s).2.rest := v5
    have d5' : (pdvE vr q s).2.rest = putS (pdlE vr q s).1.toNat ++ (pdlE vr q s).2.rest := d5
    rw [← d5']
    exact v5'

theorem prsE_ok {vr r n : Int} : ∀ (k : Nat) (f : Bool) (q : Pr) (s : Ip), PosP vr f q → Byt s.rest → (prsE vr r n k f q s).2.err = 0 →
    s.err = 0 ∧ (prsE vr r n k f q s).1.length = k ∧ vlE vr r n (behP f q) (prsE vr r n k f q s).1 = 0 ∧ s.rest = encPs19 f q (prsE vr r n k f q s).1 ++ (prsE vr r n k f q s).2.rest
  | 0, f, q, s, _, hb, h => ⟨h, rfl, rfl, rfl⟩
  | k + 1, f, q, s, hq, hb, h => by
    have h0 : s.err = 0 := by
      by_cases h9 : s.err = 0
      · exact h9
      · rw [prsE_err h9] at h; exact h
    have e : prsE vr r n (k + 1) f q s = ((pairE vr r n f q s).1 :: (prsE vr r n k false (pairE vr r n f q s).1 (pairE vr r n f q s).2).1, (prsE vr r n k false (pairE vr r n f q s).1 (pairE vr r n f q s).2).2) := if_neg fun hh => hh h0
    rw [e] at h ⊢
    dsimp only at h ⊢
    have hi : (pairE vr r n f q s).2.err = 0 := by
      by_cases h9 : (pairE vr r n f q s).2.err = 0
      · exact h9
      · rw [prsE_err h9] at h; exact h
    obtain ⟨_, g1, g2, g3⟩ := pairE_ok hq hb hi
    obtain ⟨_, i2, i3, i4⟩ := prsE_ok k false _ _ g2 (hb.right g3) h
    refine ⟨h0, by rw [List.length_cons, i2], ?_, ?_⟩
    · rw [vlE, g1, if_neg (by simp)]
      exact i3
    · show s.rest = (encP19 f q _ ++ encPs19 false _ _) ++ _
      rw [List.append_assoc, ← i4]
      exact g3

theorem icE_ok {tot : Int} {s : Ip} (hb : Byt s.rest) (h : (icE tot s).2.err = 0) : s.err = 0 ∧ 0 ≤ (icE tot s).1 ∧ tot + (icE tot s).1 ≤ 1048576 ∧ s.rest = putS (icE tot s).1.toNat ++ (icE tot s).2.rest := by
  unfold icE at *
  dsimp only at *
  by_cases h0 : 1048576 < tot + (cntE 2 s).1
  · rw [if_pos h0] at h
    exact absurd h (failE_err (by decide))
  · rw [if_neg h0] at *
    obtain ⟨h1, h2, h3, h4, _⟩ := cntE_ok hb h
    exact ⟨h1, h2, by omega, h4⟩

theorem ivsE_ok {vr r n : Int} : ∀ (m : Nat) (tot : Int) (s : Ip), Byt s.rest → (ivsE vr r n m tot s).2.err = 0 →
    s.err = 0 ∧ (ivsE vr r n m tot s).1.length = m ∧ vlsE vr r n (ivsE vr r n m tot s).1 = 0 ∧ s.rest = encW19 (ivsE vr r n m tot s).1 ++ (ivsE vr r n m tot s).2.rest
  | 0, tot, s, hb, h => ⟨h, rfl, rfl, rfl⟩
  | m + 1, tot, s, hb, h => by
    have h0 : s.err = 0 := by
      by_cases h9 : s.err = 0
      · exact h9
      · rw [ivsE_err h9] at h; exact h
    have e : ivsE vr r n (m + 1) tot s = ((ivE vr r n tot s).1 :: (ivsE vr r n m (tot + (icE tot s).1) (ivE vr r n tot s).2).1, (ivsE vr r n m (tot + (icE tot s).1) (ivE vr r n tot s).2).2) := if_neg fun hh => hh h0
    rw [e] at h ⊢
    dsimp only at h ⊢
    have hi : (ivE vr r n tot s).2.err = 0 := by
      by_cases h9 : (ivE vr r n tot s).2.err = 0
      · exact h9
      · rw [ivsE_err h9] at h; exact h
    have hc : (icE tot s).2.err = 0 := by
      by_cases h9 : (icE tot s).2.err = 0
      · exact h9
      · unfold ivE at hi; rw [prsE_err h9] at hi; exact hi
    obtain ⟨_, c2, c3, c4⟩ := icE_ok hb hc
    have b1 := hb.right c4
    obtain ⟨_, p2, p3, p4⟩ := prsE_ok (vr := vr) (r := r) (n := n) (icE tot s).1.toNat true (0, 0) (icE tot s).2 (.inl ⟨rfl, rfl⟩) b1 hi
    obtain ⟨_, k2, k3, k4⟩ := ivsE_ok m (tot + (icE tot s).1) (ivE vr r n tot s).2 (b1.right p4) h
    refine ⟨h0, by rw [List.length_cons, k2], ?_, ?_⟩
    · have p3' : vlE vr r n none (ivE vr r n tot s).1 = 0 := p3
      rw [vlsE, p3', if_neg (by simp)]
      exact k3
    · show s.rest = (encIv _ ++ encW19 _) ++ _
      rw [List.append_assoc, ← k4]
      unfold encIv
      have p2' : (ivE vr r n tot s).1.length = (icE tot s).1.toNat := p2
      have p4' : (icE tot s).2.rest = encPs19 true (0, 0) (ivE vr r n tot s).1 ++ (ivE vr r n tot s).2.rest := p4
      rw [p2', List.append_assoc, ← p4']
      exact c4

/-- What Get gives, where it gives anything. -/
theorem getE19_ok {vr r n : Int} {m : Nat} {s : Ip} (hb : Byt s.rest) (h : (getE19 vr r n m s).2.err = 0) : s.err = 0 ∧ validE (getE19 vr r n m s).1 m vr r n = 0 ∧ s.rest = encW19 (getE19 vr r n m s).1 ++ (getE19 vr r n m s).2.rest := by
  unfold getE19 at *
  by_cases h9 : (ivsE vr r n m 0 s).2.err ≠ 0
  · rw [if_pos h9] at h
    exact absurd h h9
  · rw [if_neg h9] at *
    obtain ⟨h1, h2, h3, h4⟩ := ivsE_ok m 0 s hb h
    exact ⟨h1, by unfold validE; rw [if_neg (by rw [h2]; simp)]; exact h3, h4⟩

theorem getE19_bad {vr r n : Int} {m : Nat} {s : Ip} (h : (getE19 vr r n m s).2.err ≠ 0) : (getE19 vr r n m s).1 = [] := by
  unfold getE19 at *
  by_cases h9 : (ivsE vr r n m 0 s).2.err ≠ 0
  · rw [if_pos h9]
  · rw [if_neg h9] at h
    exact absurd h h9

end Go.Proofs.YtkapmfopfddmbaaGreat

/-
  What is written is read back, and what is cut off is short: layer 19, on data; sizes.
-/
namespace Go.Proofs.YtkapmfopfddmbaaGreat
open Go.RowKit
set_option linter.unusedVariables false

theorem locS_le {l r s : Int} (hr : r ≤ 1000000000) (hs : s ≤ 1000000000) (h : locS l r s = true) : 0 ≤ l ∧ l < 2000000002 := by
  have h0 := locS_nn h
  unfold locS at h
  rw [if_neg (by omega)] at h
  split at h
  · have := of_decide_eq_true h; omega
  · have := of_decide_eq_true h; omega

/-- What a pair's acceptance gives. -/
theorem prE_zero {vr r n : Int} {f : Bool} {q p : Pr} (h : prE vr r n (behP f q) p = 0) : (0 ≤ p.1 ∧ p.1 < vr) ∧ locS p.2 r n = true ∧ (f = false → ltP q p = true) := by
  unfold prE at h
  by_cases h1 : p.1 < 0 ∨ vr ≤ p.1
  · rw [if_pos h1] at h; cases h
  · rw [if_neg h1] at h
    cases h2 : locS p.2 r n
    · rw [if_pos h2] at h; cases h
    · rw [if_neg (by rw [h2]; decide)] at h
      refine ⟨by omega, rfl, fun hf => ?_⟩
      subst hf
      change (if ltP q p = true then (0 : Int) else 13) = 0 at h
      by_cases h3 : ltP q p = true
      · exact h3
      · rw [if_neg h3] at h; cases h

theorem pairE_gt {vr r n : Int} {f : Bool} {q p : Pr} (hq : PosP vr f q) (h : prE vr r n (behP f q) p = 0) (hv : vr ≤ 1000000000) (hr : r ≤ 1000000000) (hn : n ≤ 1000000000) (t : List Nat) (j : Nat) :
    Gt (pairE vr r n f q ⟨(encP19 f q p ++ t).take j, 0⟩) p (encP19 f q p) t j := by
  obtain ⟨⟨p1, p2⟩, hl, hlt⟩ := prE_zero h
  obtain ⟨l1, l2⟩ := locS_le hr hn hl
  have hd : 0 ≤ p.1 - q.1 ∧ p.1 - q.1 < vr - q.1 := by
    rcases hq with ⟨_, rfl⟩ | ⟨hf, q1, q2, q3⟩
    · dsimp only; omega
    · have := ltP_iff.1 (hlt hf); omega
  obtain ⟨x, hx⟩ : ∃ x, (if f = false ∧ p.1 - q.1 = 0 then p.2 - q.2 - 1 else p.2) = x := ⟨_, rfl⟩
  have hxr : 0 ≤ x ∧ x < 2000000002 := by
    rw [← hx]
    by_cases h0 : f = false ∧ p.1 - q.1 = 0
    · rw [if_pos h0]
      rcases hq with ⟨hf, rfl⟩ | ⟨hf, q1, q2, q3⟩
      · exact absurd (hf.symm.trans h0.1) (by decide)
      · have := ltP_iff.1 (hlt hf); omega
    · rw [if_neg h0]; omega
  have he : encP19 f q p = putS (p.1 - q.1).toNat ++ putS x.toNat := by unfold encP19; rw [hx]
  have hle : p.1 - q.1 ≤ 18446744073709551615 := by
    rcases hq with ⟨_, rfl⟩ | ⟨_, q1, _⟩
    · dsimp only at hd ⊢; omega
    · omega
  have C1 := (numE_cuts (bd := vr - q.1) (why := 9) hd.1 hd.2 hle).gt (putS x.toNat ++ t) j
  have heq : (encP19 f q p ++ t) = putS (p.1 - q.1).toNat ++ (putS x.toNat ++ t) := by rw [he, List.append_assoc]
  rw [← heq] at C1
  rcases C1 with ⟨g1, e1⟩ | ⟨g1, e1⟩
  · have e1' : pdvE vr q ⟨(encP19 f q p ++ t).take j, 0⟩ = (p.1 - q.1, ⟨(putS x.toNat ++ t).take (j - (putS (p.1 - q.1).toNat).length), 0⟩) := e1
    have C2 := (numE_cuts (bd := 4611686018427387904) (why := 10) hxr.1 (by omega) (by omega)).gt t (j - (putS (p.1 - q.1).toNat).length)
    rcases C2 with ⟨g2, e2⟩ | ⟨g2, e2⟩
    · have e2' : pdlE vr q ⟨(encP19 f q p ++ t).take j, 0⟩ = (x, ⟨t.take (j - (putS (p.1 - q.1).toNat).length - (putS x.toNat).length), 0⟩) := by unfold pdlE; rw [e1']; exact e2
      have e3 : plE vr f q ⟨(encP19 f q p ++ t).take j, 0⟩ = p.2 := by
        unfold plE
        rw [e1', e2']
        dsimp only
        rw [← hx]
        by_cases h0 : f = false ∧ p.1 - q.1 = 0
        · rw [if_pos h0, if_pos h0]; omega
        · rw [if_neg h0, if_neg h0]
      left
      refine ⟨by rw [he, List.length_append]; omega, ?_⟩
      unfold pairE
      rw [e1', e3, e2', if_neg (by rw [hl]; exact fun hh => absurd hh.2 (by decide))]
      rw [he, List.length_append, Nat.sub_sub, show q.1 + (p.1 - q.1) = p.1 by omega]
    · right
      refine ⟨by rw [heq]; simp only [List.length_append] at g2 ⊢; omega, ?_⟩
      have e2' : (pdlE vr q ⟨(encP19 f q p ++ t).take j, 0⟩).2.err = 1 := by unfold pdlE; rw [e1']; exact e2
      unfold pairE
      dsimp only
      rw [if_neg (by rw [e2']; exact fun hh => absurd hh.1 (by decide))]
      exact e2'
  · right
    refine ⟨by rw [heq]; exact g1, ?_⟩
    have e1' : (pdvE vr q ⟨(encP19 f q p ++ t).take j, 0⟩).2.err = 1 := e1
    have e2' : (pdlE vr q ⟨(encP19 f q p ++ t).take j, 0⟩).2.err = 1 := by unfold pdlE; rw [numE_err (by rw [e1']; decide)]; exact e1'
    unfold pairE
    dsimp only
    rw [if_neg (by rw [e2']; exact fun hh => absurd hh.1 (by decide))]
    exact e2'

theorem posP_next {vr r n : Int} {f : Bool} {q p : Pr} (h : prE vr r n (behP f q) p = 0) : PosP vr false p := by
  obtain ⟨⟨p1, p2⟩, hl, _⟩ := prE_zero h
  exact .inr ⟨rfl, p1, p2, locS_nn hl⟩

theorem prsE_gt {vr r n : Int} (hv : vr ≤ 1000000000) (hr : r ≤ 1000000000) (hn : n ≤ 1000000000) : ∀ (l : List Pr) (f : Bool) (q : Pr) (t : List Nat) (j : Nat), PosP vr f q → vlE vr r n (behP f q) l = 0 →
    Gt (prsE vr r n l.length f q ⟨(encPs19 f q l ++ t).take j, 0⟩) l (encPs19 f q l) t j
  | [], f, q, t, j, _, _ => .inl ⟨Nat.zero_le _, rfl⟩
  | p :: l, f, q, t, j, hq, h => by
    have hp : prE vr r n (behP f q) p = 0 := by
      by_cases h9 : prE vr r n (behP f q) p = 0
      · exact h9
      · rw [vlE, if_pos h9] at h; exact h
    have hl : vlE vr r n (behP false p) l = 0 := by rw [vlE, if_neg (by simp [hp])] at h; exact h
    have e : ∀ s : Ip, s.err = 0 → prsE vr r n (p :: l).length f q s = ((pairE vr r n f q s).1 :: (prsE vr r n l.length false (pairE vr r n f q s).1 (pairE vr r n f q s).2).1, (prsE vr r n l.length false (pairE vr r n f q s).1 (pairE vr r n f q s).2).2) := fun s hs => if_neg fun hh => hh hs
    rw [e _ rfl]
    have ha : encPs19 f q (p :: l) ++ t = encP19 f q p ++ (encPs19 false p l ++ t) := List.append_assoc ..
    have hln : (encPs19 f q (p :: l)).length = (encP19 f q p).length + (encPs19 false p l).length := List.length_append
    have G := pairE_gt hq hp hv hr hn (encPs19 false p l ++ t) j
    rw [← ha] at G
    rcases G with ⟨g1, e1⟩ | ⟨g1, e1⟩
    · rw [e1]
      dsimp only
      have I := prsE_gt hv hr hn l false p t (j - (encP19 f q p).length) (posP_next hp) hl
      rcases I with ⟨g2, e2⟩ | ⟨g2, e2⟩
      · left
        refine ⟨by omega, ?_⟩
        rw [e2, hln]
        dsimp only
        rw [Nat.sub_sub]
      · right
        refine ⟨by rw [ha]; simp only [List.length_append] at g2 ⊢; omega, e2⟩
    · right
      refine ⟨by rw [ha]; exact g1, ?_⟩
      rw [prsE_err (by rw [e1]; decide)]
      exact e1

theorem encPs_len19 : ∀ (l : List Pr) (f : Bool) (q : Pr), 2 * l.length ≤ (encPs19 f q l).length ∧ (encPs19 f q l).length ≤ 20 * l.length
  | [], _, _ => ⟨Nat.le_refl _, Nat.le_refl _⟩
  | p :: l, f, q => by
    obtain ⟨h1, h2⟩ := encPs_len19 l false p
    have a1 := putS_pos (p.1 - q.1).toNat
    have a2 := putS_le (p.1 - q.1).toNat
    have b1 := putS_pos (if f = false ∧ p.1 - q.1 = 0 then p.2 - q.2 - 1 else p.2).toNat
    have b2 := putS_le (if f = false ∧ p.1 - q.1 = 0 then p.2 - q.2 - 1 else p.2).toNat
    have e : (encPs19 f q (p :: l)).length = (putS (p.1 - q.1).toNat).length + (putS (if f = false ∧ p.1 - q.1 = 0 then p.2 - q.2 - 1 else p.2).toNat).length + (encPs19 false p l).length := by
      show (encP19 f q p ++ encPs19 false p l).length = _
      unfold encP19
      rw [List.length_append, List.length_append]
    rw [e, List.length_cons]
    omega

theorem ivE_gt {vr r n tot : Int} (hv : vr ≤ 1000000000) (hr : r ≤ 1000000000) (hn : n ≤ 1000000000) {l : List Pr} (h : vlE vr r n none l = 0) (ht : 0 ≤ tot) (hm : tot + l.length ≤ 1048576) (t : List Nat) (j : Nat) :
    Gt (ivE vr r n tot ⟨(encIv l ++ t).take j, 0⟩) l (encIv l) t j := by
  have ha : encIv l ++ t = putS (l.length : Int).toNat ++ (encPs19 true (0, 0) l ++ t) := by unfold encIv; rw [List.append_assoc, Int.toNat_natCast]
  have hln : (encIv l).length = (putS (l.length : Int).toNat).length + (encPs19 true (0, 0) l).length := by unfold encIv; rw [List.length_append, Int.toNat_natCast]
  have hen := (encPs_len19 l true (0, 0)).1
  have G := cntE_gt (k := 2) (v := (l.length : Int)) (by decide) (by omega) (by omega) (encPs19 true (0, 0) l ++ t) j (by rw [List.length_append]; omega)
  rw [← ha] at G
  have hic : ∀ s : Ip, tot + (cntE 2 s).1 ≤ 1048576 → icE tot s = cntE 2 s := fun s hs => by unfold icE; rw [if_neg (by omega)]
  rcases G with ⟨g1, e1⟩ | ⟨g1, e1⟩
  · have e2 : icE tot ⟨(encIv l ++ t).take j, 0⟩ = ((l.length : Int), ⟨(encPs19 true (0, 0) l ++ t).take (j - (putS (l.length : Int).toNat).length), 0⟩) := by rw [hic _ (by rw [e1]; exact hm), e1]
    unfold ivE
    rw [e2]
    dsimp only
    rw [Int.toNat_natCast]
    have I := prsE_gt hv hr hn l true (0, 0) t (j - (putS (l.length : Int).toNat).length) (.inl ⟨rfl, rfl⟩) h
    rw [Int.toNat_natCast] at I hln g1
    rcases I with ⟨g2, e3⟩ | ⟨g2, e3⟩
    · left
      refine ⟨by omega, ?_⟩
      rw [e3, hln, Nat.sub_sub]
    · right
      refine ⟨?_, e3⟩
      rw [ha, Int.toNat_natCast]
      simp only [List.length_append] at g2 ⊢
      omega
  · refine .inr ⟨by rw [ha]; exact g1, ?_⟩
    have e2 : (icE tot ⟨(encIv l ++ t).take j, 0⟩).2.err = 1 := by
      unfold icE
      dsimp only
      split
      · rw [failE_keep (by rw [e1]; decide)]; exact e1
      · exact e1
    unfold ivE
    rw [prsE_err (by rw [e2]; decide)]
    exact e2

theorem prsE_lenW {vr r n : Int} : ∀ (k : Nat) (f : Bool) (q : Pr) (s : Ip), (prsE vr r n k f q s).1.length ≤ k ∧ ((prsE vr r n k f q s).2.err = 0 → (prsE vr r n k f q s).1.length = k)
  | 0, f, q, s => ⟨Nat.le_refl _, fun _ => rfl⟩
  | k + 1, f, q, s => by
    by_cases h0 : s.err = 0
    · have e : prsE vr r n (k + 1) f q s = ((pairE vr r n f q s).1 :: (prsE vr r n k false (pairE vr r n f q s).1 (pairE vr r n f q s).2).1, (prsE vr r n k false (pairE vr r n f q s).1 (pairE vr r n f q s).2).2) := if_neg fun hh => hh h0
      obtain ⟨h1, h2⟩ := prsE_lenW k false (pairE vr r n f q s).1 (pairE vr r n f q s).2
      rw [e]
      exact ⟨Nat.succ_le_succ h1, fun h => congrArg Nat.succ (h2 h)⟩
    · rw [prsE_err h0]
      exact ⟨Nat.zero_le _, fun h => absurd h h0⟩

theorem icE_nn {tot : Int} {s : Ip} : 0 ≤ (icE tot s).1 := cntE_rng.1

theorem ivsE_gt {vr r n : Int} (hv : vr ≤ 1000000000) (hr : r ≤ 1000000000) (hn : n ≤ 1000000000) : ∀ (w : List (List Pr)) (tot : Int) (t : List Nat) (j : Nat), vlsE vr r n w = 0 → 0 ≤ tot → tot + (totP w : Int) ≤ 1048576 →
    Gt (ivsE vr r n w.length tot ⟨(encW19 w ++ t).take j, 0⟩) w (encW19 w) t j
  | [], tot, t, j, _, _, _ => .inl ⟨Nat.zero_le _, rfl⟩
  | l :: w, tot, t, j, h, ht, hm => by
    have hl : vlE vr r n none l = 0 := by
      by_cases h9 : vlE vr r n none l = 0
      · exact h9
      · rw [vlsE, if_pos h9] at h; exact h
    have hw : vlsE vr r n w = 0 := by rw [vlsE, if_neg (by simp [hl])] at h; exact h
    have htp : totP (l :: w) = l.length + totP w := rfl
    have e : ∀ s : Ip, s.err = 0 → ivsE vr r n (l :: w).length tot s = ((ivE vr r n tot s).1 :: (ivsE vr r n w.length (tot + (icE tot s).1) (ivE vr r n tot s).2).1, (ivsE vr r n w.length (tot + (icE tot s).1) (ivE vr r n tot s).2).2) := fun s hs => if_neg fun hh => hh hs
    rw [e _ rfl]
    have ha : encW19 (l :: w) ++ t = encIv l ++ (encW19 w ++ t) := List.append_assoc ..
    have hln : (encW19 (l :: w)).length = (encIv l).length + (encW19 w).length := List.length_append
    have G := ivE_gt (tot := tot) hv hr hn hl ht (by omega) (encW19 w ++ t) j
    rw [← ha] at G
    rcases G with ⟨g1, e1⟩ | ⟨g1, e1⟩
    · have hic : (icE tot ⟨(encW19 (l :: w) ++ t).take j, 0⟩).1 = (l.length : Int) := by
        have h1 := (prsE_lenW (vr := vr) (r := r) (n := n) (icE tot ⟨(encW19 (l :: w) ++ t).take j, 0⟩).1.toNat true (0, 0) (icE tot ⟨(encW19 (l :: w) ++ t).take j, 0⟩).2).2 (by show (ivE vr r n tot _).2.err = 0; rw [e1])
        have h2 : (ivE vr r n tot ⟨(encW19 (l :: w) ++ t).take j, 0⟩).1.length = (icE tot ⟨(encW19 (l :: w) ++ t).take j, 0⟩).1.toNat := h1
        rw [e1] at h2
        have h3 := icE_nn (tot := tot) (s := ⟨(encW19 (l :: w) ++ t).take j, 0⟩)
        dsimp only at h2
        omega
      rw [hic, e1]
      dsimp only
      have I := ivsE_gt hv hr hn w (tot + l.length) t (j - (encIv l).length) hw (by omega) (by omega)
      rcases I with ⟨g2, e2⟩ | ⟨g2, e2⟩
      · left
        refine ⟨by omega, ?_⟩
        rw [e2, hln]
        dsimp only
        rw [Nat.sub_sub]
      · right
        refine ⟨by rw [ha]; simp only [List.length_append] at g2 ⊢; omega, e2⟩
    · right
      refine ⟨by rw [ha]; exact g1, ?_⟩
      rw [ivsE_err (by rw [e1]; decide)]
      exact e1

theorem getE19_gt {vr r n : Int} (hv : vr ≤ 1000000000) (hr : r ≤ 1000000000) (hn : n ≤ 1000000000) {w : List (List Pr)} (h : validE w w.length vr r n = 0) (hm : totP w ≤ 1048576) (t : List Nat) (j : Nat) :
    Gt (getE19 vr r n w.length ⟨(encW19 w ++ t).take j, 0⟩) w (encW19 w) t j := by
  have hw : vlsE vr r n w = 0 := by unfold validE at h; rw [if_neg (by simp)] at h; exact h
  unfold getE19
  rcases ivsE_gt hv hr hn w 0 t j hw (by omega) (by omega) with ⟨g1, e1⟩ | ⟨g1, e1⟩
  · left
    rw [e1, if_neg (by simp)]
    exact ⟨g1, rfl⟩
  · right
    rw [if_pos (by rw [e1]; decide)]
    exact ⟨g1, e1⟩

/-- Round trip. -/
theorem getE19_put {vr r n : Int} (hv : vr ≤ 1000000000) (hr : r ≤ 1000000000) (hn : n ≤ 1000000000) {w : List (List Pr)} (h : validE w w.length vr r n = 0) (hm : totP w ≤ 1048576) (t : List Nat) : getE19 vr r n w.length ⟨encW19 w ++ t, 0⟩ = (w, ⟨t, 0⟩) := (getE19_gt hv hr hn h hm t _).full

theorem getE19_cut {vr r n : Int} (hv : vr ≤ 1000000000) (hr : r ≤ 1000000000) (hn : n ≤ 1000000000) {w : List (List Pr)} (h : validE w w.length vr r n = 0) (hm : totP w ≤ 1048576) {j : Nat} (hj : j < (encW19 w).length) : (getE19 vr r n w.length ⟨(encW19 w).take j, 0⟩).2.err = 1 ∧ (getE19 vr r n w.length ⟨(encW19 w).take j, 0⟩).1 = [] := by
  have h1 := (getE19_gt hv hr hn h hm [] j).cut hj
  exact ⟨h1, getE19_bad (by rw [h1]; decide)⟩

theorem encIv_len19 (l : List Pr) : 2 * l.length + 1 ≤ (encIv l).length ∧ (encIv l).length ≤ 20 * l.length + 10 := by
  have h1 := putS_pos l.length; have h2 := putS_le l.length; have h3 := encPs_len19 l true (0, 0)
  unfold encIv
  rw [List.length_append]
  omega

theorem encW_len19 : ∀ w : List (List Pr), 2 * totP w + w.length ≤ (encW19 w).length ∧ (encW19 w).length ≤ 20 * totP w + 10 * w.length
  | [] => ⟨Nat.le_refl _, Nat.le_refl _⟩
  | l :: w => by
    obtain ⟨h1, h2⟩ := encW_len19 w
    have h3 := encIv_len19 l
    have e : (encW19 (l :: w)).length = (encIv l).length + (encW19 w).length := List.length_append
    have htp : totP (l :: w) = l.length + totP w := rfl
    rw [e, htp, List.length_cons]
    omega

/-- What Put may be asked to write. -/
def PP19 (f : Bool) (q : Pr) : List Pr → Prop
  | [] => True
  | p :: l => (0 ≤ p.1 - q.1 ∧ p.1 - q.1 ≤ 1000000000) ∧ (0 ≤ (if f = false ∧ p.1 - q.1 = 0 then p.2 - q.2 - 1 else p.2) ∧ (if f = false ∧ p.1 - q.1 = 0 then p.2 - q.2 - 1 else p.2) ≤ 4000000000) ∧ (InI p.1 ∧ InI p.2) ∧ PP19 false p l

theorem vlE_pp {vr r n : Int} (hv : vr ≤ 1000000000) (hr : r ≤ 1000000000) (hn : n ≤ 1000000000) : ∀ (l : List Pr) (f : Bool) (q : Pr), PosP vr f q → vlE vr r n (behP f q) l = 0 → PP19 f q l
  | [], _, _, _, _ => trivial
  | p :: l, f, q, hq, h => by
    have hp : prE vr r n (behP f q) p = 0 := by
      by_cases h9 : prE vr r n (behP f q) p = 0
      · exact h9
      · rw [vlE, if_pos h9] at h; exact h
    have hl : vlE vr r n (behP false p) l = 0 := by rw [vlE, if_neg (by simp [hp])] at h; exact h
    obtain ⟨⟨p1, p2⟩, hls, hlt⟩ := prE_zero hp
    obtain ⟨l1, l2⟩ := locS_le hr hn hls
    have hd : 0 ≤ p.1 - q.1 ∧ p.1 - q.1 < vr := by
      rcases hq with ⟨_, rfl⟩ | ⟨hf, q1, q2, q3⟩
      · dsimp only; omega
      · have := ltP_iff.1 (hlt hf); omega
    refine ⟨by omega, ?_, ⟨by unfold InI; omega, by unfold InI; omega⟩, vlE_pp hv hr hn l false p (posP_next hp) hl⟩
    by_cases h0 : f = false ∧ p.1 - q.1 = 0
    · rw [if_pos h0]
      rcases hq with ⟨hf, rfl⟩ | ⟨hf, q1, q2, q3⟩
      · exact absurd (hf.symm.trans h0.1) (by decide)
      · have := ltP_iff.1 (hlt hf); omega
    · rw [if_neg h0]; omega

theorem vlsE_pp {vr r n : Int} (hv : vr ≤ 1000000000) (hr : r ≤ 1000000000) (hn : n ≤ 1000000000) : ∀ (w : List (List Pr)), vlsE vr r n w = 0 → ∀ l ∈ w, PP19 true (0, 0) l
  | [], _, l, hl => by cases hl
  | x :: w, h, l, hl => by
    have hx : vlE vr r n none x = 0 := by
      by_cases h9 : vlE vr r n none x = 0
      · exact h9
      · rw [vlsE, if_pos h9] at h; exact h
    have hw : vlsE vr r n w = 0 := by rw [vlsE, if_neg (by simp [hx])] at h; exact h
    rcases List.mem_cons.1 hl with rfl | hl
    · exact vlE_pp hv hr hn _ true (0, 0) (.inl ⟨rfl, rfl⟩) hx
    · exact vlsE_pp hv hr hn w hw l hl

theorem encPs_byt19 : ∀ (l : List Pr) (f : Bool) (q : Pr), PP19 f q l → Byt (encPs19 f q l)
  | [], _, _, _ => fun x hx => by cases hx
  | p :: l, f, q, h => by
    obtain ⟨h1, h2, _, h4⟩ := h
    exact byt_app18 (byt_app18 (putS_b18 _ (by omega)) (putS_b18 _ (by omega))) (encPs_byt19 l false p h4)

theorem encW_byt19 {w : List (List Pr)} (h : ∀ l ∈ w, PP19 true (0, 0) l) (hs : ∀ l ∈ w, l.length ≤ 1000000000) : Byt (encW19 w) :=
  byt_fm18 _ _ fun l hl => byt_app18 (putS_b18 _ (by have := hs l hl; omega)) (encPs_byt19 l true (0, 0) (h l hl))

end Go.Proofs.YtkapmfopfddmbaaGreat

/-
  The reference of layer 19: pair.
-/
namespace Go.Proofs.YtkapmfopfddmbaaGreat
open Go.RowKit
set_option linter.unusedVariables false
set_option linter.unusedSimpArgs false

theorem numE_rngW {bd why : Int} {s : Ip} : 0 ≤ (numE bd why s).1 ∧ ((numE bd why s).1 < bd ∨ (numE bd why s).1 = 0) := by
  unfold numE
  split
  · exact ⟨Int.le_refl _, .inr rfl⟩
  · split
    · exact ⟨Int.le_refl _, .inr rfl⟩
    · split
      · exact ⟨Int.le_refl _, .inr rfl⟩
      · exact ⟨by dsimp only; omega, .inl (by dsimp only; omega)⟩

section
variable {w : World} {B : Nat} {A A' : Option Addr} {c c' : Nat} {s s' : Ip} {q1 q2 : Int} {W W' : World}

end

/-- What pair returns. -/
def RPR (w : World) (B : Nat) (p : Pr) (t : Ip) (e : Ending) (w' : World) : Prop :=
  ∃ A' c', e = .returned (.tuple #[.agg #[.int .i64 p.1, .int .i64 p.2], .agg #[.slice A' t.rest.length c', .int .i64 t.err]]) ∧ IpV w' B A' c' t ∧ Below w.heap.size w w'

end Go.Proofs.YtkapmfopfddmbaaGreat
