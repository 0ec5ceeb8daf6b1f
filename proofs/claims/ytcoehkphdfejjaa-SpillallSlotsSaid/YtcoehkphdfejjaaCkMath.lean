/-
  Checking a certificate, as data.
-/
import Derived.Test.YtcoehkphdfejjaaCt
import Derived.Test.YtcoehkphdfejjaaPk5
import Derived.Test.YtcoehkphdfejjaaPk4
import Derived.Test.YtcoehkphdfejjaaEdMath
import Derived.Test.YtcoehkphdfejjaaPk1
namespace Go.Proofs.Ytcoehkphdfejjaa
open Go.RowKit
set_option linter.unusedVariables false

/-- A report. -/
structure Rp where
  err : Int
  blk : Nat
  at_ : Nat
  blocks : Nat
  edges : Nat
  steps : Nat
  largest : Nat

/-- The check of block i. -/
def ckB (c : Ct) (i : Nat) : Rs := checkE (blkAt c.bs i).code (mblkAt c.ms i).code (blkAt c.bs i).term (mblkAt c.ms i).term (tmP (blkAt c.bs i).term (mblkAt c.ms i).term) (c.i i) 1048576

/-- An edge: k is its number. -/
def edgeR (c : Ct) (out : List Pr) (i : Nat) (t : Int) (k : Nat) (r : Rp) : Rp :=
  if misP (c.i t.toNat) out = none then { r with edges := r.edges + 1, steps := r.steps + 1 + out.length + (c.i t.toNat).length }
  else ⟨22, i, k, r.blocks, r.edges + 1, r.steps + 1 + out.length + (c.i t.toNat).length, r.largest⟩

/-- Edges, up to the first error. -/
def edgesR (c : Ct) (out : List Pr) (i : Nat) : List Int → Nat → Rp → Rp
  | [], _, r => r
  | t :: ts, k, r => if (edgeR c out i t k r).err = 0 then edgesR c out i ts (k + 1) (edgeR c out i t k r) else edgeR c out i t k r

/-- A block's check in the report. -/
def visitR (c : Ct) (i : Nat) (r : Rp) : Rp :=
  ⟨(ckB c i).err, if (ckB c i).err = 0 then r.blk else i, if (ckB c i).err = 0 then r.at_ else (ckB c i).at_, r.blocks + 1, r.edges, r.steps + (ckB c i).steps, max r.largest (ckB c i).largest⟩

def blkR2 (c : Ct) (i : Nat) (r : Rp) : Rp :=
  if (ckB c i).err = 0 then edgesR c (ckB c i).out i (succs (blkAt c.bs i).term) 0 (visitR c i r) else visitR c i r

def blksR (c : Ct) : Nat → Nat → Rp → Rp
  | 0, _, r => r
  | n + 1, i, r => if (blkR2 c i r).err = 0 then blksR c n (i + 1) (blkR2 c i r) else blkR2 c i r

def maxI (w : List (List Pr)) : Nat := w.foldl (fun m l => max m l.length) 0

def rep0 (c : Ct) : Rp := ⟨0, 0, 0, 0, 0, 1 + (c.i 0).length, maxI c.inv⟩

def checkC (c : Ct) : Rp :=
  if validC c ≠ 0 then ⟨validC c, 0, 0, 0, 0, 0, 0⟩
  else if entP (c.i 0) c.sa = none then blksR c c.bs.length 0 (rep0 c) else ⟨23, 0, 0, 0, 0, 1 + (c.i 0).length, maxI c.inv⟩

theorem maxI_step (w : List (List Pr)) (k : Nat) (h : k < w.length) : maxI (w.take (k + 1)) = max (maxI (w.take k)) w[k].length := by
  unfold maxI
  rw [List.take_succ_eq_append_getElem h, List.foldl_append]
  rfl

theorem maxI_le {w : List (List Pr)} : ∀ l ∈ w, l.length ≤ maxI w := by
  have key : ∀ (w : List (List Pr)) (m : Nat), m ≤ w.foldl (fun m l => max m l.length) m ∧ ∀ l ∈ w, l.length ≤ w.foldl (fun m l => max m l.length) m := by
    intro w
    induction w with
    | nil => intro m; exact ⟨Nat.le_refl _, fun l hl => by cases hl⟩
    | cons x w ih =>
      intro m
      obtain ⟨h1, h2⟩ := ih (max m x.length)
      refine ⟨Nat.le_trans (Nat.le_max_left _ _) h1, fun l hl => ?_⟩
      rcases List.mem_cons.1 hl with rfl | hl
      · exact Nat.le_trans (Nat.le_max_right _ _) h1
      · exact h2 l hl
  exact fun l hl => (key w 0).2 l hl

theorem maxI_bd {w : List (List Pr)} {m : Nat} (h : ∀ l ∈ w, l.length ≤ m) : maxI w ≤ m := by
  have key : ∀ (w : List (List Pr)) (k : Nat), k ≤ m → (∀ l ∈ w, l.length ≤ m) → w.foldl (fun m l => max m l.length) k ≤ m := by
    intro w
    induction w with
    | nil => intro k hk _; exact hk
    | cons x w ih => intro k hk hw; exact ih _ (Nat.max_le.2 ⟨hk, hw x (by simp)⟩) (fun l hl => hw l (by simp [hl]))
  exact key w 0 (Nat.zero_le _) h

theorem Ct.i_mem {c : Ct} {k : Nat} (h : k < c.inv.length) : c.i k ∈ c.inv := by
  unfold Ct.i
  rw [List.getD, List.getElem?_eq_getElem h]
  exact List.getElem_mem h

theorem Ct.i_lt {c : Ct} {k : Nat} (h : k < c.inv.length) : c.i k = c.inv[k] := by
  unfold Ct.i
  rw [List.getD, List.getElem?_eq_getElem h]
  rfl

theorem Ct.i_len (c : Ct) (k : Nat) : (c.i k).length ≤ maxI c.inv := by
  by_cases h : k < c.inv.length
  · exact maxI_le _ (Ct.i_mem h)
  · unfold Ct.i
    rw [List.getD, List.getElem?_eq_none (by omega)]
    exact Nat.zero_le _

/-- The errors of a block's check. -/
theorem stepE_errs {most : Int} {r : Rs} {e : EOp} (h : r.err = 0 ∨ r.err = 21 ∨ r.err = 24) : (stepE most r e).err = 0 ∨ (stepE most r e).err = 21 ∨ (stepE most r e).err = 24 := by
  by_cases h0 : r.err = 0
  · rcases stepE_ways most r e h0 with ⟨h1, _⟩ | ⟨h1, _⟩ | h1 | ⟨h1, _⟩ <;> rw [h1] <;> simp
  · rw [stepE_err h0]; exact h

theorem foldE_errs {most : Int} : ∀ (es : List EOp) {r : Rs}, (r.err = 0 ∨ r.err = 21 ∨ r.err = 24) → (foldE most es r).err = 0 ∨ (foldE most es r).err = 21 ∨ (foldE most es r).err = 24
  | [], _, h => h
  | e :: es, _, h => by rw [foldE_cons]; exact foldE_errs es (stepE_errs h)

theorem checkE_errs (code : List In) (mach : List Mi) (bt mt : Tm) (ok : Bool) (l : List Pr) (most : Int) :
    (checkE code mach bt mt ok l most).err = 0 ∨ (checkE code mach bt mt ok l most).err = 20 ∨ (checkE code mach bt mt ok l most).err = 21 ∨ (checkE code mach bt mt ok l most).err = 24 := by
  unfold checkE
  split
  · exact .inr (.inr (.inr rfl))
  · rcases alC code mach with ⟨r, a, e⟩
    dsimp only
    split
    · exact .inr (.inl rfl)
    · split
      · exact .inr (.inl rfl)
      · have h := foldE_errs (most := most) (blkOps code mach r bt mt) (r := ⟨l, 0, 0, 0, l.length⟩) (.inl rfl)
        unfold runE
        dsimp only
        split
        · rename_i h0; exact .inl h0
        · rcases h with h | h | h
          · exact .inl h
          · exact .inr (.inr (.inl h))
          · exact .inr (.inr (.inr h))

theorem ckB_errs (c : Ct) (i : Nat) : (ckB c i).err = 0 ∨ (ckB c i).err = 20 ∨ (ckB c i).err = 21 ∨ (ckB c i).err = 24 := checkE_errs _ _ _ _ _ _ _

/-- What an accepted block is. -/
def okB (c : Ct) (i : Nat) : Prop := (ckB c i).err = 0 ∧ ∀ t ∈ succs (blkAt c.bs i).term, misP (c.i t.toNat) (ckB c i).out = none

theorem edgeR_err (c : Ct) (out : List Pr) (i : Nat) (t : Int) (k : Nat) (r : Rp) (h : r.err = 0) :
    (misP (c.i t.toNat) out = none ∧ (edgeR c out i t k r).err = 0) ∨ (misP (c.i t.toNat) out ≠ none ∧ (edgeR c out i t k r).err = 22 ∧ (edgeR c out i t k r).blk = i) := by
  unfold edgeR
  by_cases hm : misP (c.i t.toNat) out = none
  · rw [if_pos hm]; exact .inl ⟨hm, h⟩
  · rw [if_neg hm]; exact .inr ⟨hm, rfl, rfl⟩

theorem edgesR_err (c : Ct) (out : List Pr) (i : Nat) : ∀ (ts : List Int) (k : Nat) (r : Rp), r.err = 0 →
    ((∀ t ∈ ts, misP (c.i t.toNat) out = none) ∧ (edgesR c out i ts k r).err = 0) ∨ (¬ (∀ t ∈ ts, misP (c.i t.toNat) out = none) ∧ (edgesR c out i ts k r).err = 22 ∧ (edgesR c out i ts k r).blk = i)
  | [], k, r, h => .inl ⟨fun t ht => by simp at ht, h⟩
  | t :: ts, k, r, h => by
    rw [edgesR]
    rcases edgeR_err c out i t k r h with ⟨h1, h2⟩ | ⟨h1, h2, h3⟩
    · rw [if_pos h2]
      rcases edgesR_err c out i ts (k + 1) _ h2 with ⟨g1, g2⟩ | ⟨g1, g2⟩
      · refine .inl ⟨fun u hu => ?_, g2⟩
        rcases List.mem_cons.1 hu with rfl | hu
        · exact h1
        · exact g1 u hu
      · exact .inr ⟨fun hh => g1 fun u hu => hh u (by simp [hu]), g2⟩
    · rw [if_neg (by rw [h2]; decide)]
      exact .inr ⟨fun hh => h1 (hh t (by simp)), h2, h3⟩

theorem blkR2_err (c : Ct) (i : Nat) (r : Rp) : (okB c i ∧ (blkR2 c i r).err = 0) ∨ (¬ okB c i ∧ (blkR2 c i r).err ≠ 0 ∧ (blkR2 c i r).err ≠ 23 ∧ (blkR2 c i r).blk = i) := by
  unfold blkR2 okB
  by_cases h0 : (ckB c i).err = 0
  · rw [if_pos h0]
    rcases edgesR_err c (ckB c i).out i (succs (blkAt c.bs i).term) 0 (visitR c i r) h0 with ⟨h1, h2⟩ | ⟨h1, h2, h3⟩
    · exact .inl ⟨⟨h0, h1⟩, h2⟩
    · exact .inr ⟨fun h => h1 h.2, by rw [h2]; decide, by rw [h2]; decide, h3⟩
  · rw [if_neg h0]
    refine .inr ⟨fun h => h0 h.1, h0, ?_, ?_⟩
    · show (ckB c i).err ≠ 23
      rcases ckB_errs c i with h | h | h | h <;> rw [h] <;> decide
    · show (if (ckB c i).err = 0 then r.blk else i) = i
      rw [if_neg h0]

theorem blksR_err (c : Ct) : ∀ (n i : Nat) (r : Rp), r.err = 0 →
    ((∀ j, i ≤ j → j < i + n → okB c j) ∧ (blksR c n i r).err = 0) ∨ (∃ j, i ≤ j ∧ j < i + n ∧ ¬ okB c j ∧ (∀ l, i ≤ l → l < j → okB c l) ∧ (blksR c n i r).err ≠ 0 ∧ (blksR c n i r).err ≠ 23 ∧ (blksR c n i r).blk = j)
  | 0, i, r, h => .inl ⟨fun j h1 h2 => by omega, h⟩
  | n + 1, i, r, h => by
    rw [blksR]
    rcases blkR2_err c i r with ⟨h1, h2⟩ | ⟨h1, h2, h3, h4⟩
    · rw [if_pos h2]
      rcases blksR_err c n (i + 1) _ h2 with ⟨g1, g2⟩ | ⟨j, g1, g2, g3, g4, g5⟩
      · refine .inl ⟨fun j k1 k2 => ?_, g2⟩
        rcases Nat.eq_or_lt_of_le k1 with rfl | k3
        · exact h1
        · exact g1 j k3 (by omega)
      · refine .inr ⟨j, by omega, by omega, g3, fun l k1 k2 => ?_, g5⟩
        rcases Nat.eq_or_lt_of_le k1 with rfl | k3
        · exact h1
        · exact g4 l k3 k2
    · rw [if_neg h2]
      exact .inr ⟨i, Nat.le_refl _, by omega, h1, fun l k1 k2 => by omega, h2, h3, h4⟩

/-- What an accepted certificate is. -/
def okC (c : Ct) : Prop := validC c = 0 ∧ entP (c.i 0) c.sa = none ∧ ∀ j, j < c.bs.length → okB c j

/-- The three ways of a valid certificate. -/
theorem checkC_ways (c : Ct) (h : validC c = 0) :
    (okC c ∧ (checkC c).err = 0) ∨ (entP (c.i 0) c.sa ≠ none ∧ checkC c = ⟨23, 0, 0, 0, 0, 1 + (c.i 0).length, maxI c.inv⟩) ∨
    (entP (c.i 0) c.sa = none ∧ ∃ j, j < c.bs.length ∧ ¬ okB c j ∧ (∀ l, l < j → okB c l) ∧ (checkC c).err ≠ 0 ∧ (checkC c).err ≠ 23 ∧ (checkC c).blk = j) := by
  unfold checkC
  rw [if_neg (by simpa using h)]
  by_cases he : entP (c.i 0) c.sa = none
  · rw [if_pos he]
    rcases blksR_err c c.bs.length 0 (rep0 c) rfl with ⟨h1, h2⟩ | ⟨j, h1, h2, h3, h4, h5⟩
    · exact .inl ⟨⟨h, he, fun j hj => h1 j (Nat.zero_le _) (by omega)⟩, h2⟩
    · exact .inr (.inr ⟨he, j, by omega, h3, fun l hl => h4 l (Nat.zero_le _) hl, h5⟩)
  · rw [if_neg he]
    exact .inr (.inl ⟨he, rfl⟩)

theorem checkC_bad {c : Ct} (h : validC c ≠ 0) : checkC c = ⟨validC c, 0, 0, 0, 0, 0, 0⟩ := by
  unfold checkC
  rw [if_pos h]

theorem checkC_ok {c : Ct} (h : (checkC c).err = 0) : okC c := by
  by_cases hv : validC c = 0
  · rcases checkC_ways c hv with h1 | ⟨_, h1⟩ | ⟨_, j, _, _, _, h1, _⟩
    · exact h1.1
    · rw [h1] at h; cases h
    · exact absurd h h1
  · rw [checkC_bad hv] at h
    exact absurd h hv

theorem okC_checkC {c : Ct} (h : okC c) : (checkC c).err = 0 := by
  rcases checkC_ways c h.1 with h1 | ⟨h1, _⟩ | ⟨_, j, h1, h2, _⟩
  · exact h1.2
  · exact absurd h.2.1 h1
  · exact absurd (h.2.2 j h1) h2

/-- The numbers of edges. -/
def edN (bs : List Blk) : Nat := (bs.map fun b => (succs b.term).length).sum

theorem edN_step (bs : List Blk) (k : Nat) (h : k < bs.length) : edN (bs.take (k + 1)) = edN (bs.take k) + (succs bs[k].term).length := by
  unfold edN
  rw [List.take_succ_eq_append_getElem h, List.map_append, List.sum_append]
  simp

theorem edN_take (bs : List Blk) (k : Nat) : edN (bs.take k) ≤ edN bs := by
  have : edN bs = edN (bs.take k) + edN (bs.drop k) := by
    unfold edN
    rw [← List.sum_append, ← List.map_append, List.take_append_drop]
  omega

/-- What stays true of a report under way: i blocks are over, and e edges of the next one. -/
structure RpOk (c : Ct) (i b e : Nat) (r : Rp) : Prop where
  blocks : r.blocks = b
  edges : r.edges = edN (c.bs.take i) + e
  most : maxI c.inv ≤ r.largest
  steps : r.steps ≤ (1 + 3 * mcodeN (c.ms.take b) + codeN (c.bs.take b) + b + 2 * (edN (c.bs.take i) + e)) * (r.largest + 1)

theorem edgeR_ok {c : Ct} {i b e k : Nat} {out : List Pr} {t : Int} {r : Rp} (h : RpOk c i b e r) (ho : out.length ≤ r.largest) : RpOk c i b (e + 1) (edgeR c out i t k r) ∧ (edgeR c out i t k r).largest = r.largest := by
  have h1 := c.i_len t.toNat
  have h2 := h.most
  have h3 := h.steps
  have h4 : (1 + 3 * mcodeN (c.ms.take b) + codeN (c.bs.take b) + b + 2 * (edN (c.bs.take i) + (e + 1))) * (r.largest + 1) = (1 + 3 * mcodeN (c.ms.take b) + codeN (c.bs.take b) + b + 2 * (edN (c.bs.take i) + e)) * (r.largest + 1) + 2 * (r.largest + 1) := by
    rw [← Nat.add_mul]
    congr 1
  have h5 : r.steps + 1 + out.length + (c.i t.toNat).length ≤ (1 + 3 * mcodeN (c.ms.take b) + codeN (c.bs.take b) + b + 2 * (edN (c.bs.take i) + (e + 1))) * (r.largest + 1) := by omega
  unfold edgeR
  split
  · exact ⟨⟨h.blocks, by show r.edges + 1 = _; rw [h.edges]; omega, h.most, h5⟩, rfl⟩
  · exact ⟨⟨h.blocks, by show r.edges + 1 = _; rw [h.edges]; omega, h.most, h5⟩, rfl⟩

theorem edgesR_ok {c : Ct} {i b : Nat} {out : List Pr} : ∀ (ts : List Int) (e k : Nat) (r : Rp), RpOk c i b e r → out.length ≤ r.largest → r.err = 0 →
    ∃ e', e' ≤ e + ts.length ∧ RpOk c i b e' (edgesR c out i ts k r) ∧ ((edgesR c out i ts k r).err = 0 → e' = e + ts.length)
  | [], e, k, r, h, _, _ => ⟨e, Nat.le_refl _, h, fun _ => rfl⟩
  | t :: ts, e, k, r, h, ho, h0 => by
    rw [edgesR]
    obtain ⟨h1, h2⟩ := edgeR_ok (t := t) (k := k) h ho
    by_cases he : (edgeR c out i t k r).err = 0
    · rw [if_pos he]
      obtain ⟨e', g1, g2, g3⟩ := edgesR_ok ts (e + 1) (k + 1) _ h1 (by rw [h2]; exact ho) he
      exact ⟨e', by simp; omega, g2, fun h9 => by have := g3 h9; simp; omega⟩
    · rw [if_neg he]
      exact ⟨e + 1, by simp, h1, fun h9 => absurd h9 he⟩

theorem visitR_ok {c : Ct} {i : Nat} {r : Rp} (h : RpOk c i i 0 r) (hi : i < c.bs.length) (hm : i < c.ms.length) : RpOk c i (i + 1) 0 (visitR c i r) ∧ (ckB c i).out.length ≤ (visitR c i r).largest := by
  obtain ⟨s1, s2, s3, _, _⟩ := checkE_steps (blkAt c.bs i).code (mblkAt c.ms i).code (blkAt c.bs i).term (mblkAt c.ms i).term (tmP (blkAt c.bs i).term (mblkAt c.ms i).term) (c.i i) 1048576
  change (ckB c i).steps ≤ _ * ((ckB c i).largest + 1) at s1
  change (ckB c i).out.length ≤ (ckB c i).largest at s3
  have c1 := codeN_step c.bs i hi
  have c2 := mcodeN_step c.ms i hm
  rw [blkAt_lt hi, mblkAt_lt hm] at s1
  obtain ⟨L, hL⟩ : ∃ L, L = max r.largest (ckB c i).largest := ⟨_, rfl⟩
  have hl1 : r.largest ≤ L := by omega
  have hl2 : (ckB c i).largest ≤ L := by omega
  have g1 := Nat.le_trans s1 (Nat.mul_le_mul_left (3 * (c.ms[i]).code.length + (c.bs[i]).code.length + 1) (Nat.succ_le_succ hl2))
  have g2 := Nat.le_trans h.steps (Nat.mul_le_mul_left _ (Nat.succ_le_succ hl1))
  refine ⟨⟨by show r.blocks + 1 = _; rw [h.blocks], h.edges, by show _ ≤ max r.largest _; rw [← hL]; exact Nat.le_trans h.most hl1, ?_⟩, by show _ ≤ max r.largest _; rw [← hL]; omega⟩
  show r.steps + (ckB c i).steps ≤ _ * (max r.largest (ckB c i).largest + 1)
  rw [← hL, c1, c2]
  refine Nat.le_trans (Nat.add_le_add g2 g1) ?_
  rw [← Nat.add_mul]
  exact Nat.mul_le_mul_right _ (by omega)

theorem blksR_ok {c : Ct} (hl : c.bs.length = c.ms.length) : ∀ (n i : Nat) (r : Rp), i + n = c.bs.length → RpOk c i i 0 r → r.err = 0 →
    ∃ i' b e, b ≤ c.bs.length ∧ edN (c.bs.take i') + e ≤ edN c.bs ∧ RpOk c i' b e (blksR c n i r) ∧ ((blksR c n i r).err = 0 → b = c.bs.length ∧ edN (c.bs.take i') + e = edN c.bs)
  | 0, i, r, hi, h, h0 => by
    have e : c.bs.take i = c.bs := List.take_of_length_le (by omega)
    exact ⟨i, i, 0, by omega, by rw [e]; omega, h, fun _ => ⟨by omega, by rw [e]; omega⟩⟩
  | n + 1, i, r, hi, h, h0 => by
    rw [blksR]
    have hib : i < c.bs.length := by omega
    obtain ⟨v1, v2⟩ := visitR_ok h hib (by omega)
    have hst := edN_step c.bs i hib
    have htk := edN_take c.bs (i + 1)
    have hbe : RpOk c (i + 1) (i + 1) 0 (blkR2 c i r) ∨ ¬ (blkR2 c i r).err = 0 ∧ ∃ e, e ≤ (succs c.bs[i].term).length ∧ RpOk c i (i + 1) e (blkR2 c i r) := by
      unfold blkR2
      by_cases h1 : (ckB c i).err = 0
      · rw [if_pos h1]
        obtain ⟨e', g1, g2, g3⟩ := edgesR_ok (succs (blkAt c.bs i).term) 0 0 (visitR c i r) v1 v2 h1
        rw [blkAt_lt hib] at g1 g2 g3 ⊢
        by_cases h2 : (edgesR c (ckB c i).out i (succs c.bs[i].term) 0 (visitR c i r)).err = 0
        · left
          have g3 := g3 h2
          refine ⟨g2.blocks, by rw [g2.edges, hst]; omega, g2.most, ?_⟩
          rw [hst, Nat.add_zero]
          have := g2.steps
          rw [g3, Nat.zero_add] at this
          exact this
        · exact .inr ⟨h2, e', by omega, g2⟩
      · rw [if_neg h1]
        exact .inr ⟨h1, 0, Nat.zero_le _, v1⟩
    by_cases h2 : (blkR2 c i r).err = 0
    · rw [if_pos h2]
      rcases hbe with hbe | ⟨hbe, _⟩
      · exact blksR_ok hl n (i + 1) _ (by omega) hbe h2
      · exact absurd h2 hbe
    · rw [if_neg h2]
      rcases hbe with hbe | ⟨_, e, he, hbe⟩
      · exact ⟨i + 1, i + 1, 0, by omega, by omega, hbe, fun h9 => absurd h9 h2⟩
      · exact ⟨i, i + 1, e, by omega, by omega, hbe, fun h9 => absurd h9 h2⟩

/-- The bound on steps. -/
def boundC (c : Ct) (largest : Nat) : Nat := 3 * (codeN c.bs + mcodeN c.ms + edN c.bs + c.bs.length + 1) * (largest + 1)

/-- What the statement on the visits asks. -/
theorem checkC_once {c : Ct} (h : validC c = 0) : (checkC c).blocks ≤ c.bs.length ∧ (checkC c).edges ≤ edN c.bs ∧ (checkC c).steps ≤ boundC c (checkC c).largest ∧ ((checkC c).err = 0 → (checkC c).blocks = c.bs.length ∧ (checkC c).edges = edN c.bs) := by
  have hl : c.bs.length = c.ms.length := by
    unfold validC at h
    split at h
    · rename_i h1; exact absurd h h1
    · split at h
      · rename_i h1; exact absurd h h1
      · split at h
        · cases h
        · rename_i h1; omega
  unfold checkC
  rw [if_neg (by simpa using h)]
  split
  · have h0 : RpOk c 0 0 0 (rep0 c) := ⟨rfl, by simp [rep0, edN], Nat.le_refl _, by
      have := c.i_len 0
      simp only [rep0, List.take_zero, mcodeN_nil, codeN_nil, edN, List.map_nil, List.sum_nil]
      omega⟩
    obtain ⟨i', b, e, h1, h2, h3, h4⟩ := blksR_ok hl c.bs.length 0 (rep0 c) (by omega) h0 rfl
    have h5 := mcodeN_take c.ms b
    have h6 := codeN_take c.bs b
    refine ⟨by rw [h3.blocks]; exact h1, by rw [h3.edges]; exact h2, ?_, fun h9 => ?_⟩
    · refine Nat.le_trans h3.steps ?_
      unfold boundC
      exact Nat.mul_le_mul_right _ (by omega)
    · obtain ⟨g1, g2⟩ := h4 h9
      exact ⟨by rw [h3.blocks, g1], by rw [h3.edges, g2]⟩
  · refine ⟨Nat.zero_le _, Nat.zero_le _, ?_, fun h9 => by cases h9⟩
    show 1 + (c.i 0).length ≤ boundC c (maxI c.inv)
    have h1 := c.i_len 0
    unfold boundC
    have h2 : 1 * (maxI c.inv + 1) ≤ 3 * (codeN c.bs + mcodeN c.ms + edN c.bs + c.bs.length + 1) * (maxI c.inv + 1) := Nat.mul_le_mul_right _ (by omega)
    omega

end Go.Proofs.Ytcoehkphdfejjaa
