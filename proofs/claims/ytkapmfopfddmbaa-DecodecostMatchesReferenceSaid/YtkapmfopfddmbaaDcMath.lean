/-
  What decoding costs, as functions on data: elements of each kind, bytes of sections; the bounds by the length of the input.
-/
import Derived.Test.YtkapmfopfddmbaaPk28
namespace Go.Proofs.Ytkapmfopfddmbaa
open Go.RowKit
set_option linter.unusedVariables false

/-- The instructions that are announced, block by block, up to the first error. -/
def cI (regs n : Int) : Nat → Int → Ip → Int
  | 0, _, _ => 0
  | m + 1, tot, s => if s.err ≠ 0 then 0 else (cntE 2 s).1 + cI regs n m (tot + (cntE 2 s).1) (blkT regs n tot s).2

def cM (regs slots n : Int) : Nat → Int → Ip → Int
  | 0, _, _ => 0
  | m + 1, tot, s => if s.err ≠ 0 then 0 else (cntE 2 s).1 + cM regs slots n m (tot + (cntE 2 s).1) (mblkT regs slots n tot s).2

def cP (vr r n : Int) : Nat → Int → Ip → Int
  | 0, _, _ => 0
  | m + 1, tot, s => if s.err ≠ 0 then 0 else (cntE 2 s).1 + cP vr r n m (tot + (cntE 2 s).1) (ivE vr r n tot s).2

def fcB (s : Ip) : Int := (cntE 3 (fC s)).1

def fcI (s : Ip) : Int := cI (fR' s).1 (fcB s) (fcB s).toNat 0 (cntE 3 (fC s)).2

def gcB (s : Ip) : Int := (cntE 3 (gC s)).1

def gcI (s : Ip) : Int := cM (fR' s).1 (gS s).1 (gcB s) (gcB s).toNat 0 (cntE 3 (gC s)).2

/-- The lengths of the sections that are read. -/
def secL : List Nat → List Nat → Nat
  | [], _ => 0
  | id :: ids, b => if (oneS id b).1 ≠ 0 then 0 else (oneS id b).2.2 + secL ids (b.drop ((oneS id b).2.1 + (oneS id b).2.2))

/-- A cost. -/
structure Co where
  b : Int
  i : Int
  p : Int
  y : Nat

def cost1 (y : Nat) (o p q : List Nat) : Co :=
  if endT (funcE ⟨o, 0⟩).2 ≠ 0 then ⟨fcB ⟨o, 0⟩, fcI ⟨o, 0⟩, 0, y⟩
  else if endT (mfuncE ⟨p, 0⟩).2 ≠ 0 ∨ (funcE ⟨o, 0⟩).1.bs.length ≠ (mfuncE ⟨p, 0⟩).1.ms.length ∨ (funcE ⟨o, 0⟩).1.args ≠ (mfuncE ⟨p, 0⟩).1.args then ⟨fcB ⟨o, 0⟩ + gcB ⟨p, 0⟩, fcI ⟨o, 0⟩ + gcI ⟨p, 0⟩, 0, y⟩
  else ⟨fcB ⟨o, 0⟩ + gcB ⟨p, 0⟩, fcI ⟨o, 0⟩ + gcI ⟨p, 0⟩, cP (funcE ⟨o, 0⟩).1.regs (mfuncE ⟨p, 0⟩).1.regs (mfuncE ⟨p, 0⟩).1.slots (funcE ⟨o, 0⟩).1.bs.length 0 ⟨q, 0⟩, y⟩

def cost0 (r : List Nat) : Co :=
  if splitE ids20 r ≠ 0 then ⟨0, 0, 0, secL ids20 r⟩ else cost1 (secL ids20 r) ((splitF ids20 r).2.1.getD 0 []) ((splitF ids20 r).2.1.getD 1 []) ((splitF ids20 r).2.1.getD 2 [])

def costE (b : List Nat) : Co :=
  if b.length < 3 ∨ b.getD 0 0 ≠ 82 ∨ b.getD 1 0 ≠ 67 ∨ b.getD 2 0 ≠ 1 then ⟨0, 0, 0, 0⟩ else cost0 (b.drop 3)

/-- One state is behind another. -/
def Suf (t s : Ip) : Prop := ∃ k, t.rest = s.rest.drop k

theorem Suf.refl (s : Ip) : Suf s s := ⟨0, rfl⟩

theorem Suf.nil (s : Ip) (e : Int) : Suf ⟨[], e⟩ s := ⟨s.rest.length, by simp⟩

theorem Suf.trans {a b c : Ip} (h : Suf a b) (k : Suf b c) : Suf a c := by
  obtain ⟨i, h⟩ := h
  obtain ⟨j, k⟩ := k
  exact ⟨j + i, by rw [h, k, List.drop_drop]⟩

theorem Suf.byt {t s : Ip} (h : Suf t s) (hb : Byt s.rest) : Byt t.rest := by
  obtain ⟨k, h⟩ := h
  intro c hc
  rw [h] at hc
  exact hb c (List.mem_of_mem_drop hc)

theorem Suf.len {t s : Ip} (h : Suf t s) : t.rest.length ≤ s.rest.length := by
  obtain ⟨k, h⟩ := h
  rw [h, List.length_drop]
  omega

theorem numE_suf {bd why : Int} {s : Ip} : Suf (numE bd why s).2 s := by
  unfold numE
  split
  · exact Suf.refl s
  split
  · exact Suf.nil s _
  split
  · exact Suf.nil s _
  · exact ⟨_, rfl⟩

theorem failE_suf {e : Int} {s : Ip} : Suf (failE e s) s := by
  unfold failE
  split
  · exact Suf.refl s
  · exact Suf.nil s _

theorem cntE_suf {k : Int} {s : Ip} : Suf (cntE k s).2 s := by
  unfold cntE
  split
  · exact failE_suf.trans numE_suf
  · exact numE_suf

theorem sizeE_zero {s : Ip} (h : (sizeE s).2.err ≠ 0) : (sizeE s).1 = 0 := by
  unfold sizeE numE at *
  split
  · rfl
  · rename_i h0
    rw [if_neg h0] at h
    split
    · rfl
    · rename_i h1
      rw [if_neg h1] at h
      split
      · rfl
      · rename_i h2
        rw [if_neg h2] at h
        exact absurd rfl h

theorem cntE_zero {k : Int} {s : Ip} (h : (cntE k s).2.err ≠ 0) : (cntE k s).1 = 0 := by
  unfold cntE at *
  split
  · rfl
  · rename_i h0
    rw [if_neg h0] at h
    exact sizeE_zero h

theorem codeE_bad {tot : Int} {s : Ip} (h : (cntE 2 s).2.err ≠ 0) : (codeE tot s).2.err ≠ 0 := by
  unfold codeE
  split
  · exact failE_err (by decide)
  · exact h

theorem codeE_same {tot : Int} {s : Ip} (h : (codeE tot s).2.err = 0) : codeE tot s = cntE 2 s ∧ (cntE 2 s).2.err = 0 := by
  unfold codeE at *
  by_cases h0 : 1048576 < tot + (cntE 2 s).1
  · rw [if_pos h0] at h
    exact absurd h (failE_err (by decide))
  · rw [if_neg h0] at *
    exact ⟨rfl, h⟩

theorem cI_err {regs n tot : Int} {m : Nat} {s : Ip} (h : s.err ≠ 0) : cI regs n m tot s = 0 := by
  cases m with
  | zero => rfl
  | succ m => exact if_pos h

theorem cM_err {regs slots n tot : Int} {m : Nat} {s : Ip} (h : s.err ≠ 0) : cM regs slots n m tot s = 0 := by
  cases m with
  | zero => rfl
  | succ m => exact if_pos h

theorem cP_err {vr r n tot : Int} {m : Nat} {s : Ip} (h : s.err ≠ 0) : cP vr r n m tot s = 0 := by
  cases m with
  | zero => rfl
  | succ m => exact if_pos h

/-- A block that has been read without an error. -/
theorem blk_ok21 {regs n tot : Int} {s : Ip} (hb : Byt s.rest) (h : (blkT regs n tot s).2.err = 0) :
    (cntE 2 s).2.err = 0 ∧ codeE tot s = cntE 2 s ∧ ((blkI regs tot s).1.length : Int) = (cntE 2 s).1 ∧ 0 ≤ (cntE 2 s).1 ∧ 2 * (blkI regs tot s).1.length + (blkT regs n tot s).2.rest.length ≤ s.rest.length ∧ Byt (blkT regs n tot s).2.rest := by
  have hi : (blkI regs tot s).2.err = 0 := by
    by_cases h9 : (blkI regs tot s).2.err = 0
    · exact h9
    · unfold blkT at h; rw [termE_err h9] at h; exact h
  have hc : (codeE tot s).2.err = 0 := by
    by_cases h9 : (codeE tot s).2.err = 0
    · exact h9
    · unfold blkI at hi; rw [insE_err h9] at hi; exact hi
  obtain ⟨e1, e2⟩ := codeE_same hc
  obtain ⟨_, c2, c3, c4, _⟩ := codeE_ok hb hc
  have b1 := hb.right c4
  obtain ⟨_, i2, i3, i4, i5⟩ := insE_ok (regs := regs) (codeE tot s).1.toNat (codeE tot s).2 b1 hi
  have b2 := b1.right i5
  have hs2 := ip_eta hi
  have tk := termE_ok (regs := regs) (n := n) (l := (blkI regs tot s).2.rest) b2 (by rw [← hs2]; exact h)
  rw [← hs2] at tk
  obtain ⟨t1, t2⟩ := tk
  have w2 : (blkI regs tot s).1.length * 2 ≤ (encC (blkI regs tot s).1).length := encC_two (regs := regs) _ fun x hx => (i4 x hx).2
  have l1 := congrArg List.length c4
  have l2 : (codeE tot s).2.rest.length = _ := congrArg List.length i5
  have l3 := congrArg List.length t2
  rw [List.length_append] at l1 l2 l3
  have i2' : (blkI regs tot s).1.length = (codeE tot s).1.toNat := i2
  have l2' : (codeE tot s).2.rest.length = (encC (blkI regs tot s).1).length + (blkI regs tot s).2.rest.length := l2
  have l3' : (blkI regs tot s).2.rest.length = (encT (termE regs n (blkI regs tot s).2).1).length + (blkT regs n tot s).2.rest.length := l3
  refine ⟨e2, e1, by rw [i2', ← e1]; omega, by rw [← e1]; exact c2, by omega, b2.right t2⟩

theorem mblk_ok21 {regs slots n tot : Int} {s : Ip} (hb : Byt s.rest) (h : (mblkT regs slots n tot s).2.err = 0) :
    (cntE 2 s).2.err = 0 ∧ codeE tot s = cntE 2 s ∧ ((mblkI regs slots tot s).1.length : Int) = (cntE 2 s).1 ∧ 0 ≤ (cntE 2 s).1 ∧ 2 * (mblkI regs slots tot s).1.length + (mblkT regs slots n tot s).2.rest.length ≤ s.rest.length ∧ Byt (mblkT regs slots n tot s).2.rest := by
  have hi : (mblkI regs slots tot s).2.err = 0 := by
    by_cases h9 : (mblkI regs slots tot s).2.err = 0
    · exact h9
    · unfold mblkT at h; rw [termE_err h9] at h; exact h
  have hc : (codeE tot s).2.err = 0 := by
    by_cases h9 : (codeE tot s).2.err = 0
    · exact h9
    · unfold mblkI at hi; rw [miE_err h9] at hi; exact hi
  obtain ⟨e1, e2⟩ := codeE_same hc
  obtain ⟨_, c2, c3, c4, _⟩ := codeE_ok hb hc
  have b1 := hb.right c4
  obtain ⟨_, i2, i3, i4, i5⟩ := miE_ok (regs := regs) (slots := slots) (codeE tot s).1.toNat 0 (codeE tot s).2 b1 hi
  have b2 := b1.right i5
  have hs2 := ip_eta hi
  have tk := termE_ok (regs := regs) (n := n) (l := (mblkI regs slots tot s).2.rest) b2 (by rw [← hs2]; exact h)
  rw [← hs2] at tk
  obtain ⟨t1, t2⟩ := tk
  have w2 : (mblkI regs slots tot s).1.length * 2 ≤ (encK (mblkI regs slots tot s).1).length := encK_two (regs := regs) (n := slots) _ fun x hx => (i4 x hx).2
  have l1 := congrArg List.length c4
  have l2 : (codeE tot s).2.rest.length = _ := congrArg List.length i5
  have l3 := congrArg List.length t2
  rw [List.length_append] at l1 l2 l3
  have i2' : (mblkI regs slots tot s).1.length = (codeE tot s).1.toNat := i2
  have l2' : (codeE tot s).2.rest.length = (encK (mblkI regs slots tot s).1).length + (mblkI regs slots tot s).2.rest.length := l2
  have l3' : (mblkI regs slots tot s).2.rest.length = (encT (termE regs n (mblkI regs slots tot s).2).1).length + (mblkT regs slots n tot s).2.rest.length := l3
  refine ⟨e2, e1, by rw [i2', ← e1]; omega, by rw [← e1]; exact c2, by omega, b2.right t2⟩

theorem icE_same {tot : Int} {s : Ip} (h : (icE tot s).2.err = 0) : (icE tot s).2 = (cntE 2 s).2 ∧ (cntE 2 s).2.err = 0 := by
  unfold icE at *
  dsimp only at *
  by_cases h0 : 1048576 < tot + (cntE 2 s).1
  · rw [if_pos h0] at h
    exact absurd h (failE_err (by decide))
  · rw [if_neg h0] at *
    exact ⟨rfl, h⟩

theorem iv_ok21 {vr r n tot : Int} {s : Ip} (hb : Byt s.rest) (h : (ivE vr r n tot s).2.err = 0) :
    (cntE 2 s).2.err = 0 ∧ ((ivE vr r n tot s).1.length : Int) = (cntE 2 s).1 ∧ 0 ≤ (cntE 2 s).1 ∧ 2 * (ivE vr r n tot s).1.length + (ivE vr r n tot s).2.rest.length ≤ s.rest.length ∧ Byt (ivE vr r n tot s).2.rest := by
  have hc : (icE tot s).2.err = 0 := by
    by_cases h9 : (icE tot s).2.err = 0
    · exact h9
    · unfold ivE at h; rw [prsE_err h9] at h; exact h
  obtain ⟨e1, e2⟩ := icE_same hc
  obtain ⟨_, c2, c3, c4⟩ := icE_ok hb hc
  have b1 := hb.right c4
  obtain ⟨_, p2, p3, p4⟩ := prsE_ok (vr := vr) (r := r) (n := n) (icE tot s).1.toNat true (0, 0) (icE tot s).2 (.inl ⟨rfl, rfl⟩) b1 h
  have p2' : (ivE vr r n tot s).1.length = (icE tot s).1.toNat := p2
  have p4' : (icE tot s).2.rest = encPs19 true (0, 0) (ivE vr r n tot s).1 ++ (ivE vr r n tot s).2.rest := p4
  have w2 := (encPs_len19 (ivE vr r n tot s).1 true (0, 0)).1
  have l1 := congrArg List.length c4
  have l2 := congrArg List.length p4'
  rw [List.length_append] at l1 l2
  have e3 : (icE tot s).1 = (cntE 2 s).1 := rfl
  rw [e3] at p2' c2
  exact ⟨e2, by rw [p2']; omega, c2, by omega, b1.right p4'⟩

theorem cnt_le {k : Int} {s : Ip} (hk : 0 < k) (hb : Byt s.rest) : 0 ≤ (cntE k s).1 ∧ k * (cntE k s).1 ≤ (s.rest.length : Int) ∧ ((cntE k s).2.err = 0 → k * (cntE k s).1 ≤ ((cntE k s).2.rest.length : Int)) := by
  by_cases hc : (cntE k s).2.err = 0
  · obtain ⟨_, c2, c3, c4, c5⟩ := cntE_ok hb hc
    have hl : (cntE k s).2.rest.length ≤ s.rest.length := cntE_suf.len
    have h1 : k * (cntE k s).1 ≤ ((cntE k s).2.rest.length : Int) := by
      have h2 : k * (cntE k s).1 ≤ k * (((cntE k s).2.rest.length : Int) / k) := Int.mul_le_mul_of_nonneg_left c5 (by omega)
      have h3 := Int.mul_ediv_self_le (x := ((cntE k s).2.rest.length : Int)) (k := k) (by omega)
      omega
    exact ⟨c2, by omega, fun _ => h1⟩
  · rw [cntE_zero hc]
    exact ⟨by omega, by omega, fun h => absurd h hc⟩

theorem cI_two {regs n : Int} : ∀ (m : Nat) (tot : Int) (s : Ip), Byt s.rest → 0 ≤ cI regs n m tot s ∧ 2 * cI regs n m tot s ≤ (s.rest.length : Int)
  | 0, _, _, _ => by unfold cI; omega
  | m + 1, tot, s, hb => by
    by_cases h0 : s.err ≠ 0
    · rw [cI_err h0]; omega
    unfold cI
    rw [if_neg h0]
    obtain ⟨n1, n2, _⟩ := cnt_le (k := 2) (by omega) hb
    by_cases ht : (blkT regs n tot s).2.err = 0
    · obtain ⟨_, _, t3, t4, t5, t6⟩ := blk_ok21 hb ht
      obtain ⟨i1, i2⟩ := cI_two (regs := regs) (n := n) m (tot + (cntE 2 s).1) (blkT regs n tot s).2 t6
      omega
    · rw [cI_err ht]; omega

theorem cM_two {regs slots n : Int} : ∀ (m : Nat) (tot : Int) (s : Ip), Byt s.rest → 0 ≤ cM regs slots n m tot s ∧ 2 * cM regs slots n m tot s ≤ (s.rest.length : Int)
  | 0, _, _, _ => by unfold cM; omega
  | m + 1, tot, s, hb => by
    by_cases h0 : s.err ≠ 0
    · rw [cM_err h0]; omega
    unfold cM
    rw [if_neg h0]
    obtain ⟨n1, n2, _⟩ := cnt_le (k := 2) (by omega) hb
    by_cases ht : (mblkT regs slots n tot s).2.err = 0
    · obtain ⟨_, _, t3, t4, t5, t6⟩ := mblk_ok21 hb ht
      obtain ⟨i1, i2⟩ := cM_two (regs := regs) (slots := slots) (n := n) m (tot + (cntE 2 s).1) (mblkT regs slots n tot s).2 t6
      omega
    · rw [cM_err ht]; omega

theorem cP_two {vr r n : Int} : ∀ (m : Nat) (tot : Int) (s : Ip), Byt s.rest → 0 ≤ cP vr r n m tot s ∧ 2 * cP vr r n m tot s ≤ (s.rest.length : Int)
  | 0, _, _, _ => by unfold cP; omega
  | m + 1, tot, s, hb => by
    by_cases h0 : s.err ≠ 0
    · rw [cP_err h0]; omega
    unfold cP
    rw [if_neg h0]
    obtain ⟨n1, n2, _⟩ := cnt_le (k := 2) (by omega) hb
    by_cases ht : (ivE vr r n tot s).2.err = 0
    · obtain ⟨_, t3, t4, t5, t6⟩ := iv_ok21 hb ht
      obtain ⟨i1, i2⟩ := cP_two (vr := vr) (r := r) (n := n) m (tot + (cntE 2 s).1) (ivE vr r n tot s).2 t6
      omega
    · rw [cP_err ht]; omega

theorem fC_suf {s : Ip} : Suf (fC s) s := by
  have h1 : Suf (fR' s).2 s := (numE_suf (s := (fA s).2)).trans (numE_suf (s := s))
  unfold fC
  split
  · exact failE_suf.trans h1
  · exact h1

theorem gC_suf {s : Ip} : Suf (gC s) s := by
  have h1 : Suf (gS s).2 s := (numE_suf (s := (fR' s).2)).trans ((numE_suf (s := (fA s).2)).trans (numE_suf (s := s)))
  unfold gC
  split
  · exact failE_suf.trans h1
  · exact h1

/-- The cost of a function's section. -/
theorem fc_le {s : Ip} (hb : Byt s.rest) : 0 ≤ fcB s ∧ 0 ≤ fcI s ∧ 3 * fcB s ≤ (s.rest.length : Int) ∧ 2 * fcI s ≤ (s.rest.length : Int) := by
  have hc := (fC_suf (s := s)).byt hb
  have hl := (fC_suf (s := s)).len
  obtain ⟨n1, n2, _⟩ := cnt_le (k := 3) (by omega) hc
  have h2 := (cntE_suf (k := 3) (s := fC s)).len
  obtain ⟨i1, i2⟩ := cI_two (regs := (fR' s).1) (n := fcB s) (fcB s).toNat 0 (cntE 3 (fC s)).2 ((cntE_suf (k := 3) (s := fC s)).byt hc)
  have e1 : fcB s = (cntE 3 (fC s)).1 := rfl
  have e2 : fcI s = cI (fR' s).1 (fcB s) (fcB s).toNat 0 (cntE 3 (fC s)).2 := rfl
  omega

theorem gc_le {s : Ip} (hb : Byt s.rest) : 0 ≤ gcB s ∧ 0 ≤ gcI s ∧ 3 * gcB s ≤ (s.rest.length : Int) ∧ 2 * gcI s ≤ (s.rest.length : Int) := by
  have hc := (gC_suf (s := s)).byt hb
  have hl := (gC_suf (s := s)).len
  obtain ⟨n1, n2, _⟩ := cnt_le (k := 3) (by omega) hc
  have h2 := (cntE_suf (k := 3) (s := gC s)).len
  obtain ⟨i1, i2⟩ := cM_two (regs := (fR' s).1) (slots := (gS s).1) (n := gcB s) (gcB s).toNat 0 (cntE 3 (gC s)).2 ((cntE_suf (k := 3) (s := gC s)).byt hc)
  have e1 : gcB s = (cntE 3 (gC s)).1 := rfl
  have e2 : gcI s = cM (fR' s).1 (gS s).1 (gcB s) (gcB s).toNat 0 (cntE 3 (gC s)).2 := rfl
  omega

theorem oneS_le (id : Nat) (l : List Nat) (h : (oneS id l).1 = 0) : (oneS id l).2.1 + (oneS id l).2.2 ≤ l.length := by
  cases l with
  | nil => cases h
  | cons x t =>
    have e : oneS id (x :: t) = if x ≠ id then (7, 0, 0) else if (getS t).2.2 ≠ 0 then ((getS t).2.2, 0, 0) else if t.length < (getS t).2.1 + (getS t).1 then (1, 0, 0) else (0, 1 + (getS t).2.1, (getS t).1) := rfl
    rw [e] at h ⊢
    by_cases h1 : x ≠ id
    · rw [if_pos h1] at h; cases h
    rw [if_neg h1] at h ⊢
    by_cases h2 : (getS t).2.2 ≠ 0
    · rw [if_pos h2] at h; exact absurd h h2
    rw [if_neg h2] at h ⊢
    by_cases h3 : t.length < (getS t).2.1 + (getS t).1
    · rw [if_pos h3] at h; cases h
    rw [if_neg h3]
    show 1 + (getS t).2.1 + (getS t).1 ≤ t.length + 1
    omega

theorem secL_le : ∀ (ids b : List Nat), secL ids b ≤ b.length
  | [], b => Nat.zero_le _
  | id :: ids, b => by
    unfold secL
    by_cases h : (oneS id b).1 ≠ 0
    · rw [if_pos h]; omega
    · rw [if_neg h]
      have h1 := oneS_le id b (by omega)
      have h2 := secL_le ids (b.drop ((oneS id b).2.1 + (oneS id b).2.2))
      rw [List.length_drop] at h2
      omega

theorem packS_tot : ∀ (ids : List Nat) (xs : List (List Nat)), ids.length = xs.length → totalS xs + 2 * xs.length ≤ (packS ids xs).length
  | [], [], _ => Nat.le_refl _
  | id :: ids, x :: xs, h => by
    have := packS_tot ids xs (by simpa using h)
    have h1 : 1 ≤ lenS x.length := putS_pos x.length
    rw [packS, List.length_append, encS_length, totalS, List.length_cons]
    omega
  | [], _ :: _, h => by simp at h
  | _ :: _, [], h => by simp at h

/-- What is bounded by the length of the input. -/
def LinC (c : Co) (n : Nat) : Prop := 0 ≤ c.b ∧ 0 ≤ c.i ∧ 0 ≤ c.p ∧ c.y ≤ n ∧ 3 * c.b + 2 * c.i + 2 * c.p ≤ 2 * (n : Int) ∧ c.b + c.i + c.p ≤ (n : Int)

theorem cost1_le {o p q : List Nat} {y n : Nat} (ho : Byt o) (hp : Byt p) (hq : Byt q) (hy : y ≤ n) (hn : o.length + p.length + q.length ≤ n) : LinC (cost1 y o p q) n := by
  obtain ⟨a1, a2, a3, a4⟩ := fc_le (s := ⟨o, 0⟩) ho
  obtain ⟨b1, b2, b3, b4⟩ := gc_le (s := ⟨p, 0⟩) hp
  obtain ⟨c1, c2⟩ := cP_two (vr := (funcE ⟨o, 0⟩).1.regs) (r := (mfuncE ⟨p, 0⟩).1.regs) (n := (mfuncE ⟨p, 0⟩).1.slots) (funcE ⟨o, 0⟩).1.bs.length 0 ⟨q, 0⟩ hq
  dsimp only at a3 a4 b3 b4 c2
  unfold cost1
  split
  · unfold LinC; dsimp only; omega
  · split
    · unfold LinC; dsimp only; omega
    · unfold LinC; dsimp only; omega

theorem costE_le {b : List Nat} (hb : Byt b) : LinC (costE b) b.length := by
  unfold costE
  split
  · unfold LinC; dsimp only; omega
  rename_i h0
  have hb3 : Byt (b.drop 3) := fun c hc => hb c (List.mem_of_mem_drop hc)
  have hy := secL_le ids20 (b.drop 3)
  rw [List.length_drop] at hy
  unfold cost0
  by_cases h1 : splitE ids20 (b.drop 3) ≠ 0
  · rw [if_pos h1]
    unfold LinC; dsimp only; omega
  rw [if_neg h1]
  obtain ⟨s1, s2⟩ := split_canon (ids := ids20) (l := b.drop 3) hb3 (by omega)
  have hl3 := list3 s2 []
  have ht := packS_tot ids20 (splitF ids20 (b.drop 3)).2.1 s2.symm
  rw [s1, List.length_drop] at ht
  generalize (splitF ids20 (b.drop 3)).2.1 = ps at *
  have hbp : ∀ x ∈ ps, Byt x := fun x hx c hc => hb3 c (by rw [← s1]; exact packS_mem ids20 ps s2.symm x hx c hc)
  have htt : totalS ps = (ps.getD 0 []).length + ((ps.getD 1 []).length + ((ps.getD 2 []).length + 0)) := by
    generalize ps.getD 0 [] = x0 at *
    generalize ps.getD 1 [] = x1 at *
    generalize ps.getD 2 [] = x2 at *
    rw [hl3]
    rfl
  exact cost1_le (hbp _ (by rw [hl3]; simp)) (hbp _ (by rw [hl3]; simp)) (hbp _ (by rw [hl3]; simp)) (by omega) (by omega)

end Go.Proofs.Ytkapmfopfddmbaa
