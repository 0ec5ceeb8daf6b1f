/-
  What is written is read back, and what is cut off is short: layer 19, on data; sizes.
-/
import Derived.Test.YthehcdajedaefaaWnMath
import Derived.Test.YthehcdajedaefaaPk8
namespace Go.Proofs.Ythehcdajedaefaa
open Go.RowKit
set_option linter.unusedVariables false

theorem locS_le {l r s : Int} (hr : r ≤ 1000000000) (hs : s ≤ 1000000000) (h : locS l r s = true) : 0 ≤ l ∧ l < 2000000002 := by
  have h0 := locS_nn h
  unfold locS at h
  rw [if_neg (by omega)] at h
  split at h
  · have := of_decide_eq_true h; omega
  · have := of_decide_eq_true h; omega

/-- What a pair's acceptance gives. -/
theorem prE_zero {vr r n : Int} {f : Bool} {q p : Pr} (h : prE vr r n (behP f q) p = 0) : (0 ≤ p.1 ∧ p.1 < vr) ∧ locS p.2 r n = true ∧ (f = false → ltP q p = true) := by
  unfold prE at h
  by_cases h1 : p.1 < 0 ∨ vr ≤ p.1
  · rw [if_pos h1] at h; cases h
  · rw [if_neg h1] at h
    cases h2 : locS p.2 r n
    · rw [if_pos h2] at h; cases h
    · rw [if_neg (by rw [h2]; decide)] at h
      refine ⟨by omega, rfl, fun hf => ?_⟩
      subst hf
      change (if ltP q p = true then (0 : Int) else 13) = 0 at h
      by_cases h3 : ltP q p = true
      · exact h3
      · rw [if_neg h3] at h; cases h

theorem pairE_gt {vr r n : Int} {f : Bool} {q p : Pr} (hq : PosP vr f q) (h : prE vr r n (behP f q) p = 0) (hv : vr ≤ 1000000000) (hr : r ≤ 1000000000) (hn : n ≤ 1000000000) (t : List Nat) (j : Nat) :
    Gt (pairE vr r n f q ⟨(encP19 f q p ++ t).take j, 0⟩) p (encP19 f q p) t j := by
  obtain ⟨⟨p1, p2⟩, hl, hlt⟩ := prE_zero h
  obtain ⟨l1, l2⟩ := locS_le hr hn hl
  have hd : 0 ≤ p.1 - q.1 ∧ p.1 - q.1 < vr - q.1 := by
    rcases hq with ⟨_, rfl⟩ | ⟨hf, q1, q2, q3⟩
    · dsimp only; omega
    · have := ltP_iff.1 (hlt hf); omega
  obtain ⟨x, hx⟩ : ∃ x, (if f = false ∧ p.1 - q.1 = 0 then p.2 - q.2 - 1 else p.2) = x := ⟨_, rfl⟩
  have hxr : 0 ≤ x ∧ x < 2000000002 := by
    rw [← hx]
    by_cases h0 : f = false ∧ p.1 - q.1 = 0
    · rw [if_pos h0]
      rcases hq with ⟨hf, rfl⟩ | ⟨hf, q1, q2, q3⟩
      · exact absurd (hf.symm.trans h0.1) (by decide)
      · have := ltP_iff.1 (hlt hf); omega
    · rw [if_neg h0]; omega
  have he : encP19 f q p = putS (p.1 - q.1).toNat ++ putS x.toNat := by unfold encP19; rw [hx]
  have hle : p.1 - q.1 ≤ 18446744073709551615 := by
    rcases hq with ⟨_, rfl⟩ | ⟨_, q1, _⟩
    · dsimp only at hd ⊢; omega
    · omega
  have C1 := (numE_cuts (bd := vr - q.1) (why := 9) hd.1 hd.2 hle).gt (putS x.toNat ++ t) j
  have heq : (encP19 f q p ++ t) = putS (p.1 - q.1).toNat ++ (putS x.toNat ++ t) := by rw [he, List.append_assoc]
  rw [← heq] at C1
  rcases C1 with ⟨g1, e1⟩ | ⟨g1, e1⟩
  · have e1' : pdvE vr q ⟨(encP19 f q p ++ t).take j, 0⟩ = (p.1 - q.1, ⟨(putS x.toNat ++ t).take (j - (putS (p.1 - q.1).toNat).length), 0⟩) := e1
    have C2 := (numE_cuts (bd := 4611686018427387904) (why := 10) hxr.1 (by omega) (by omega)).gt t (j - (putS (p.1 - q.1).toNat).length)
    rcases C2 with ⟨g2, e2⟩ | ⟨g2, e2⟩
    · have e2' : pdlE vr q ⟨(encP19 f q p ++ t).take j, 0⟩ = (x, ⟨t.take (j - (putS (p.1 - q.1).toNat).length - (putS x.toNat).length), 0⟩) := by unfold pdlE; rw [e1']; exact e2
      have e3 : plE vr f q ⟨(encP19 f q p ++ t).take j, 0⟩ = p.2 := by
        unfold plE
        rw [e1', e2']
        dsimp only
        rw [← hx]
        by_cases h0 : f = false ∧ p.1 - q.1 = 0
        · rw [if_pos h0, if_pos h0]; omega
        · rw [if_neg h0, if_neg h0]
      left
      refine ⟨by rw [he, List.length_append]; omega, ?_⟩
      unfold pairE
      rw [e1', e3, e2', if_neg (by rw [hl]; exact fun hh => absurd hh.2 (by decide))]
      rw [he, List.length_append, Nat.sub_sub, show q.1 + (p.1 - q.1) = p.1 by omega]
    · right
      refine ⟨by rw [heq]; simp only [List.length_append] at g2 ⊢; omega, ?_⟩
      have e2' : (pdlE vr q ⟨(encP19 f q p ++ t).take j, 0⟩).2.err = 1 := by unfold pdlE; rw [e1']; exact e2
      unfold pairE
      dsimp only
      rw [if_neg (by rw [e2']; exact fun hh => absurd hh.1 (by decide))]
      exact e2'
  · right
    refine ⟨by rw [heq]; exact g1, ?_⟩
    have e1' : (pdvE vr q ⟨(encP19 f q p ++ t).take j, 0⟩).2.err = 1 := e1
    have e2' : (pdlE vr q ⟨(encP19 f q p ++ t).take j, 0⟩).2.err = 1 := by unfold pdlE; rw [numE_err (by rw [e1']; decide)]; exact e1'
    unfold pairE
    dsimp only
    rw [if_neg (by rw [e2']; exact fun hh => absurd hh.1 (by decide))]
    exact e2'

theorem posP_next {vr r n : Int} {f : Bool} {q p : Pr} (h : prE vr r n (behP f q) p = 0) : PosP vr false p := by
  obtain ⟨⟨p1, p2⟩, hl, _⟩ := prE_zero h
  exact .inr ⟨rfl, p1, p2, locS_nn hl⟩

theorem prsE_gt {vr r n : Int} (hv : vr ≤ 1000000000) (hr : r ≤ 1000000000) (hn : n ≤ 1000000000) : ∀ (l : List Pr) (f : Bool) (q : Pr) (t : List Nat) (j : Nat), PosP vr f q → vlE vr r n (behP f q) l = 0 →
    Gt (prsE vr r n l.length f q ⟨(encPs19 f q l ++ t).take j, 0⟩) l (encPs19 f q l) t j
  | [], f, q, t, j, _, _ => .inl ⟨Nat.zero_le _, rfl⟩
  | p :: l, f, q, t, j, hq, h => by
    have hp : prE vr r n (behP f q) p = 0 := by
      by_cases h9 : prE vr r n (behP f q) p = 0
      · exact h9
      · rw [vlE, if_pos h9] at h; exact h
    have hl : vlE vr r n (behP false p) l = 0 := by rw [vlE, if_neg (by simp [hp])] at h; exact h
    have e : ∀ s : Ip, s.err = 0 → prsE vr r n (p :: l).length f q s = ((pairE vr r n f q s).1 :: (prsE vr r n l.length false (pairE vr r n f q s).1 (pairE vr r n f q s).2).1, (prsE vr r n l.length false (pairE vr r n f q s).1 (pairE vr r n f q s).2).2) := fun s hs => if_neg fun hh => hh hs
    rw [e _ rfl]
    have ha : encPs19 f q (p :: l) ++ t = encP19 f q p ++ (encPs19 false p l ++ t) := List.append_assoc ..
    have hln : (encPs19 f q (p :: l)).length = (encP19 f q p).length + (encPs19 false p l).length := List.length_append
    have G := pairE_gt hq hp hv hr hn (encPs19 false p l ++ t) j
    rw [← ha] at G
    rcases G with ⟨g1, e1⟩ | ⟨g1, e1⟩
    · rw [e1]
      dsimp only
      have I := prsE_gt hv hr hn l false p t (j - (encP19 f q p).length) (posP_next hp) hl
      rcases I with ⟨g2, e2⟩ | ⟨g2, e2⟩
      · left
        refine ⟨by omega, ?_⟩
        rw [e2, hln]
        dsimp only
        rw [Nat.sub_sub]
      · right
        refine ⟨by rw [ha]; simp only [List.length_append] at g2 ⊢; omega, e2⟩
    · right
      refine ⟨by rw [ha]; exact g1, ?_⟩
      rw [prsE_err (by rw [e1]; decide)]
      exact e1

theorem encPs_len19 : ∀ (l : List Pr) (f : Bool) (q : Pr), 2 * l.length ≤ (encPs19 f q l).length ∧ (encPs19 f q l).length ≤ 20 * l.length
  | [], _, _ => ⟨Nat.le_refl _, Nat.le_refl _⟩
  | p :: l, f, q => by
    obtain ⟨h1, h2⟩ := encPs_len19 l false p
    have a1 := putS_pos (p.1 - q.1).toNat
    have a2 := putS_le (p.1 - q.1).toNat
    have b1 := putS_pos (if f = false ∧ p.1 - q.1 = 0 then p.2 - q.2 - 1 else p.2).toNat
    have b2 := putS_le (if f = false ∧ p.1 - q.1 = 0 then p.2 - q.2 - 1 else p.2).toNat
    have e : (encPs19 f q (p :: l)).length = (putS (p.1 - q.1).toNat).length + (putS (if f = false ∧ p.1 - q.1 = 0 then p.2 - q.2 - 1 else p.2).toNat).length + (encPs19 false p l).length := by
      show (encP19 f q p ++ encPs19 false p l).length = _
      unfold encP19
      rw [List.length_append, List.length_append]
    rw [e, List.length_cons]
    omega

theorem ivE_gt {vr r n tot : Int} (hv : vr ≤ 1000000000) (hr : r ≤ 1000000000) (hn : n ≤ 1000000000) {l : List Pr} (h : vlE vr r n none l = 0) (ht : 0 ≤ tot) (hm : tot + l.length ≤ 1048576) (t : List Nat) (j : Nat) :
    Gt (ivE vr r n tot ⟨(encIv l ++ t).take j, 0⟩) l (encIv l) t j := by
  have ha : encIv l ++ t = putS (l.length : Int).toNat ++ (encPs19 true (0, 0) l ++ t) := by unfold encIv; rw [List.append_assoc, Int.toNat_natCast]
  have hln : (encIv l).length = (putS (l.length : Int).toNat).length + (encPs19 true (0, 0) l).length := by unfold encIv; rw [List.length_append, Int.toNat_natCast]
  have hen := (encPs_len19 l true (0, 0)).1
  have G := cntE_gt (k := 2) (v := (l.length : Int)) (by decide) (by omega) (by omega) (encPs19 true (0, 0) l ++ t) j (by rw [List.length_append]; omega)
  rw [← ha] at G
  have hic : ∀ s : Ip, tot + (cntE 2 s).1 ≤ 1048576 → icE tot s = cntE 2 s := fun s hs => by unfold icE; rw [if_neg (by omega)]
  rcases G with ⟨g1, e1⟩ | ⟨g1, e1⟩
  · have e2 : icE tot ⟨(encIv l ++ t).take j, 0⟩ = ((l.length : Int), ⟨(encPs19 true (0, 0) l ++ t).take (j - (putS (l.length : Int).toNat).length), 0⟩) := by rw [hic _ (by rw [e1]; exact hm), e1]
    unfold ivE
    rw [e2]
    dsimp only
    rw [Int.toNat_natCast]
    have I := prsE_gt hv hr hn l true (0, 0) t (j - (putS (l.length : Int).toNat).length) (.inl ⟨rfl, rfl⟩) h
    rw [Int.toNat_natCast] at I hln g1
    rcases I with ⟨g2, e3⟩ | ⟨g2, e3⟩
    · left
      refine ⟨by omega, ?_⟩
      rw [e3, hln, Nat.sub_sub]
    · right
      refine ⟨?_, e3⟩
      rw [ha, Int.toNat_natCast]
      simp only [List.length_append] at g2 ⊢
      omega
  · refine .inr ⟨by rw [ha]; exact g1, ?_⟩
    have e2 : (icE tot ⟨(encIv l ++ t).take j, 0⟩).2.err = 1 := by
      unfold icE
      dsimp only
      split
      · rw [failE_keep (by rw [e1]; decide)]; exact e1
      · exact e1
    unfold ivE
    rw [prsE_err (by rw [e2]; decide)]
    exact e2

theorem prsE_lenW {vr r n : Int} : ∀ (k : Nat) (f : Bool) (q : Pr) (s : Ip), (prsE vr r n k f q s).1.length ≤ k ∧ ((prsE vr r n k f q s).2.err = 0 → (prsE vr r n k f q s).1.length = k)
  | 0, f, q, s => ⟨Nat.le_refl _, fun _ => rfl⟩
  | k + 1, f, q, s => by
    by_cases h0 : s.err = 0
    · have e : prsE vr r n (k + 1) f q s = ((pairE vr r n f q s).1 :: (prsE vr r n k false (pairE vr r n f q s).1 (pairE vr r n f q s).2).1, (prsE vr r n k false (pairE vr r n f q s).1 (pairE vr r n f q s).2).2) := if_neg fun hh => hh h0
      obtain ⟨h1, h2⟩ := prsE_lenW k false (pairE vr r n f q s).1 (pairE vr r n f q s).2
      rw [e]
      exact ⟨Nat.succ_le_succ h1, fun h => congrArg Nat.succ (h2 h)⟩
    · rw [prsE_err h0]
      exact ⟨Nat.zero_le _, fun h => absurd h h0⟩

theorem icE_nn {tot : Int} {s : Ip} : 0 ≤ (icE tot s).1 := cntE_rng.1

theorem ivsE_gt {vr r n : Int} (hv : vr ≤ 1000000000) (hr : r ≤ 1000000000) (hn : n ≤ 1000000000) : ∀ (w : List (List Pr)) (tot : Int) (t : List Nat) (j : Nat), vlsE vr r n w = 0 → 0 ≤ tot → tot + (totP w : Int) ≤ 1048576 →
    Gt (ivsE vr r n w.length tot ⟨(encW19 w ++ t).take j, 0⟩) w (encW19 w) t j
  | [], tot, t, j, _, _, _ => .inl ⟨Nat.zero_le _, rfl⟩
  | l :: w, tot, t, j, h, ht, hm => by
    have hl : vlE vr r n none l = 0 := by
      by_cases h9 : vlE vr r n none l = 0
      · exact h9
      · rw [vlsE, if_pos h9] at h; exact h
    have hw : vlsE vr r n w = 0 := by rw [vlsE, if_neg (by simp [hl])] at h; exact h
    have htp : totP (l :: w) = l.length + totP w := rfl
    have e : ∀ s : Ip, s.err = 0 → ivsE vr r n (l :: w).length tot s = ((ivE vr r n tot s).1 :: (ivsE vr r n w.length (tot + (icE tot s).1) (ivE vr r n tot s).2).1, (ivsE vr r n w.length (tot + (icE tot s).1) (ivE vr r n tot s).2).2) := fun s hs => if_neg fun hh => hh hs
    rw [e _ rfl]
    have ha : encW19 (l :: w) ++ t = encIv l ++ (encW19 w ++ t) := List.append_assoc ..
    have hln : (encW19 (l :: w)).length = (encIv l).length + (encW19 w).length := List.length_append
    have G := ivE_gt (tot := tot) hv hr hn hl ht (by omega) (encW19 w ++ t) j
    rw [← ha] at G
    rcases G with ⟨g1, e1⟩ | ⟨g1, e1⟩
    · have hic : (icE tot ⟨(encW19 (l :: w) ++ t).take j, 0⟩).1 = (l.length : Int) := by
        have h1 := (prsE_lenW (vr := vr) (r := r) (n := n) (icE tot ⟨(encW19 (l :: w) ++ t).take j, 0⟩).1.toNat true (0, 0) (icE tot ⟨(encW19 (l :: w) ++ t).take j, 0⟩).2).2 (by show (ivE vr r n tot _).2.err = 0; rw [e1])
        have h2 : (ivE vr r n tot ⟨(encW19 (l :: w) ++ t).take j, 0⟩).1.length = (icE tot ⟨(encW19 (l :: w) ++ t).take j, 0⟩).1.toNat := h1
        rw [e1] at h2
        have h3 := icE_nn (tot := tot) (s := ⟨(encW19 (l :: w) ++ t).take j, 0⟩)
        dsimp only at h2
        omega
      rw [hic, e1]
      dsimp only
      have I := ivsE_gt hv hr hn w (tot + l.length) t (j - (encIv l).length) hw (by omega) (by omega)
      rcases I with ⟨g2, e2⟩ | ⟨g2, e2⟩
      · left
        refine ⟨by omega, ?_⟩
        rw [e2, hln]
        dsimp only
        rw [Nat.sub_sub]
      · right
        refine ⟨by rw [ha]; simp only [List.length_append] at g2 ⊢; omega, e2⟩
    · right
      refine ⟨by rw [ha]; exact g1, ?_⟩
      rw [ivsE_err (by rw [e1]; decide)]
      exact e1

theorem getE19_gt {vr r n : Int} (hv : vr ≤ 1000000000) (hr : r ≤ 1000000000) (hn : n ≤ 1000000000) {w : List (List Pr)} (h : validE w w.length vr r n = 0) (hm : totP w ≤ 1048576) (t : List Nat) (j : Nat) :
    Gt (getE19 vr r n w.length ⟨(encW19 w ++ t).take j, 0⟩) w (encW19 w) t j := by
  have hw : vlsE vr r n w = 0 := by unfold validE at h; rw [if_neg (by simp)] at h; exact h
  unfold getE19
  rcases ivsE_gt hv hr hn w 0 t j hw (by omega) (by omega) with ⟨g1, e1⟩ | ⟨g1, e1⟩
  · left
    rw [e1, if_neg (by simp)]
    exact ⟨g1, rfl⟩
  · right
    rw [if_pos (by rw [e1]; decide)]
    exact ⟨g1, e1⟩

/-- Round trip. -/
theorem getE19_put {vr r n : Int} (hv : vr ≤ 1000000000) (hr : r ≤ 1000000000) (hn : n ≤ 1000000000) {w : List (List Pr)} (h : validE w w.length vr r n = 0) (hm : totP w ≤ 1048576) (t : List Nat) : getE19 vr r n w.length ⟨encW19 w ++ t, 0⟩ = (w, ⟨t, 0⟩) := (getE19_gt hv hr hn h hm t _).full

theorem getE19_cut {vr r n : Int} (hv : vr ≤ 1000000000) (hr : r ≤ 1000000000) (hn : n ≤ 1000000000) {w : List (List Pr)} (h : validE w w.length vr r n = 0) (hm : totP w ≤ 1048576) {j : Nat} (hj : j < (encW19 w).length) : (getE19 vr r n w.length ⟨(encW19 w).take j, 0⟩).2.err = 1 ∧ (getE19 vr r n w.length ⟨(encW19 w).take j, 0⟩).1 = [] := by
  have h1 := (getE19_gt hv hr hn h hm [] j).cut hj
  exact ⟨h1, getE19_bad (by rw [h1]; decide)⟩

theorem encIv_len19 (l : List Pr) : 2 * l.length + 1 ≤ (encIv l).length ∧ (encIv l).length ≤ 20 * l.length + 10 := by
  have h1 := putS_pos l.length; have h2 := putS_le l.length; have h3 := encPs_len19 l true (0, 0)
  unfold encIv
  rw [List.length_append]
  omega

theorem encW_len19 : ∀ w : List (List Pr), 2 * totP w + w.length ≤ (encW19 w).length ∧ (encW19 w).length ≤ 20 * totP w + 10 * w.length
  | [] => ⟨Nat.le_refl _, Nat.le_refl _⟩
  | l :: w => by
    obtain ⟨h1, h2⟩ := encW_len19 w
    have h3 := encIv_len19 l
    have e : (encW19 (l :: w)).length = (encIv l).length + (encW19 w).length := List.length_append
    have htp : totP (l :: w) = l.length + totP w := rfl
    rw [e, htp, List.length_cons]
    omega

/-- What Put may be asked to write. -/
def PP19 (f : Bool) (q : Pr) : List Pr → Prop
  | [] => True
  | p :: l => (0 ≤ p.1 - q.1 ∧ p.1 - q.1 ≤ 1000000000) ∧ (0 ≤ (if f = false ∧ p.1 - q.1 = 0 then p.2 - q.2 - 1 else p.2) ∧ (if f = false ∧ p.1 - q.1 = 0 then p.2 - q.2 - 1 else p.2) ≤ 4000000000) ∧ (InI p.1 ∧ InI p.2) ∧ PP19 false p l

theorem vlE_pp {vr r n : Int} (hv : vr ≤ 1000000000) (hr : r ≤ 1000000000) (hn : n ≤ 1000000000) : ∀ (l : List Pr) (f : Bool) (q : Pr), PosP vr f q → vlE vr r n (behP f q) l = 0 → PP19 f q l
  | [], _, _, _, _ => trivial
  | p :: l, f, q, hq, h => by
    have hp : prE vr r n (behP f q) p = 0 := by
      by_cases h9 : prE vr r n (behP f q) p = 0
      · exact h9
      · rw [vlE, if_pos h9] at h; exact h
    have hl : vlE vr r n (behP false p) l = 0 := by rw [vlE, if_neg (by simp [hp])] at h; exact h
    obtain ⟨⟨p1, p2⟩, hls, hlt⟩ := prE_zero hp
    obtain ⟨l1, l2⟩ := locS_le hr hn hls
    have hd : 0 ≤ p.1 - q.1 ∧ p.1 - q.1 < vr := by
      rcases hq with ⟨_, rfl⟩ | ⟨hf, q1, q2, q3⟩
      · dsimp only; omega
      · have := ltP_iff.1 (hlt hf); omega
    refine ⟨by omega, ?_, ⟨by unfold InI; omega, by unfold InI; omega⟩, vlE_pp hv hr hn l false p (posP_next hp) hl⟩
    by_cases h0 : f = false ∧ p.1 - q.1 = 0
    · rw [if_pos h0]
      rcases hq with ⟨hf, rfl⟩ | ⟨hf, q1, q2, q3⟩
      · exact absurd (hf.symm.trans h0.1) (by decide)
      · have := ltP_iff.1 (hlt hf); omega
    · rw [if_neg h0]; omega

theorem vlsE_pp {vr r n : Int} (hv : vr ≤ 1000000000) (hr : r ≤ 1000000000) (hn : n ≤ 1000000000) : ∀ (w : List (List Pr)), vlsE vr r n w = 0 → ∀ l ∈ w, PP19 true (0, 0) l
  | [], _, l, hl => by cases hl
  | x :: w, h, l, hl => by
    have hx : vlE vr r n none x = 0 := by
      by_cases h9 : vlE vr r n none x = 0
      · exact h9
      · rw [vlsE, if_pos h9] at h; exact h
    have hw : vlsE vr r n w = 0 := by rw [vlsE, if_neg (by simp [hx])] at h; exact h
    rcases List.mem_cons.1 hl with rfl | hl
    · exact vlE_pp hv hr hn _ true (0, 0) (.inl ⟨rfl, rfl⟩) hx
    · exact vlsE_pp hv hr hn w hw l hl

theorem encPs_byt19 : ∀ (l : List Pr) (f : Bool) (q : Pr), PP19 f q l → Byt (encPs19 f q l)
  | [], _, _, _ => fun x hx => by cases hx
  | p :: l, f, q, h => by
    obtain ⟨h1, h2, _, h4⟩ := h
    exact byt_app18 (byt_app18 (putS_b18 _ (by omega)) (putS_b18 _ (by omega))) (encPs_byt19 l false p h4)

theorem encW_byt19 {w : List (List Pr)} (h : ∀ l ∈ w, PP19 true (0, 0) l) (hs : ∀ l ∈ w, l.length ≤ 1000000000) : Byt (encW19 w) :=
  byt_fm18 _ _ fun l hl => byt_app18 (putS_b18 _ (by have := hs l hl; omega)) (encPs_byt19 l true (0, 0) (h l hl))

end Go.Proofs.Ythehcdajedaefaa
