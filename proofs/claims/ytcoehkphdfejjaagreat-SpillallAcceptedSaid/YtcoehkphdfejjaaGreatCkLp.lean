/-
  Where the loops of a certificate's check stand.
-/
import Derived.Test.YtcoehkphdfejjaaGreatCkMem
import Derived.Test.YtcoehkphdfejjaaGreatPk3
namespace Go.Proofs.YtcoehkphdfejjaaGreat
open Go.RowKit
set_option linter.unusedVariables false

/-- Where the loop over the blocks stands: i of them are over. -/
structure LpB (c : Ct) (i : Nat) (r : Rp) : Prop where
  err : r.err = 0
  rest : blksR c (c.bs.length - i) i r = blksR c c.bs.length 0 (rep0 c)
  ok : RpOk c i i 0 r
  lar : r.largest ≤ 400000

/-- Where the loop over the edges of block i stands: k of them are over. -/
structure LpE (c : Ct) (i : Nat) (out : List Pr) (k : Nat) (R r : Rp) : Prop where
  err : r.err = 0
  rest : edgesR c out i ((succs (blkAt c.bs i).term).drop k) k r = R
  ok : RpOk c i (i + 1) k r
  lar : r.largest ≤ 400000
  ol : out.length ≤ r.largest

theorem LpE.more {c : Ct} {i k : Nat} {out : List Pr} {R r : Rp} (h : LpE c i out k R r) {t : Int} (hk : k < (succs (blkAt c.bs i).term).length) (ht : (succs (blkAt c.bs i).term)[k] = t) (hm : misP (c.i t.toNat) out = none) : LpE c i out (k + 1) R (edgeR c out i t k r) := by
  subst ht
  have hr := h.rest
  rw [List.drop_eq_getElem_cons hk, edgesR] at hr
  obtain ⟨g1, g2⟩ := edgeR_ok (t := (succs (blkAt c.bs i).term)[k]) (k := k) h.ok h.ol
  rcases edgeR_err c out i (succs (blkAt c.bs i).term)[k] k r h.err with ⟨_, h2⟩ | ⟨h1, _⟩
  · rw [if_pos h2] at hr
    exact ⟨h2, hr, g1, by rw [g2]; exact h.lar, by rw [g2]; exact h.ol⟩
  · exact absurd hm h1

theorem LpE.bad {c : Ct} {i k : Nat} {out : List Pr} {R r : Rp} (h : LpE c i out k R r) {t : Int} (hk : k < (succs (blkAt c.bs i).term).length) (ht : (succs (blkAt c.bs i).term)[k] = t) (hm : misP (c.i t.toNat) out ≠ none) : R = edgeR c out i t k r ∧ R.err = 22 := by
  subst ht
  have hr := h.rest
  rw [List.drop_eq_getElem_cons hk, edgesR] at hr
  rcases edgeR_err c out i (succs (blkAt c.bs i).term)[k] k r h.err with ⟨h1, _⟩ | ⟨_, h2, _⟩
  · exact absurd h1 hm
  · rw [if_neg (by rw [h2]; decide)] at hr
    exact ⟨hr.symm, by rw [← hr]; exact h2⟩

theorem LpE.done {c : Ct} {i : Nat} {out : List Pr} {R r : Rp} (h : LpE c i out (succs (blkAt c.bs i).term).length R r) : R = r := by
  have hr := h.rest
  rw [List.drop_length] at hr
  exact hr.symm

theorem mres_of (a b : List Pr) : ∃ r1 r2, mres (misP a b) = .tuple #[.agg #[.int .i64 r1, .int .i64 r2], .bool (misP a b).isSome] := by
  rcases h : misP a b with _ | ⟨r1, r2⟩
  · exact ⟨0, 0, rfl⟩
  · exact ⟨r1, r2, rfl⟩

theorem LpB.start {c : Ct} {N n m : Nat} (h : FitC c N n m) : LpB c 0 (rep0 c) :=
  ⟨rfl, rfl, ⟨rfl, by simp [rep0, edN], Nat.le_refl _, by
      have := c.i_len 0
      simp only [rep0, List.take_zero, mcodeN_nil, codeN_nil, edN, List.map_nil, List.sum_nil]
      omega⟩, by
    show maxI c.inv ≤ _
    have := maxI_bd (m := 400) fun l hl => (h.inv l hl).2.1
    omega⟩

theorem RpOk.sm {c : Ct} {N n m i b e : Nat} {r : Rp} (h : RpOk c i b e r) (hf : FitC c N n m) (hb : b ≤ c.bs.length) (he : e ≤ 2) (hl : r.largest ≤ 400000) : r.steps ≤ 4000000000 ∧ r.blocks ≤ 40 ∧ r.edges ≤ 82 := by
  have h1 := mcodeN_take c.ms b
  have h2 := codeN_take c.bs b
  have h3 := edN_take c.bs i
  have h4 := edN_le c.bs
  have h5 := hf.b40
  have h6 := hf.code
  have h7 := hf.mcode
  refine ⟨Nat.le_trans h.steps (Nat.le_trans (Nat.mul_le_mul (show _ ≤ 4500 by omega) (show r.largest + 1 ≤ 400001 by omega)) (by decide)), by rw [h.blocks]; omega, by rw [h.edges]; omega⟩

/-- A block: its check goes into the report. -/
theorem LpB.visit {c : Ct} {N n m i : Nat} {r : Rp} (h : LpB c i r) (hf : FitC c N n m) (hi : i < c.bs.length) : RpOk c i (i + 1) 0 (visitR c i r) ∧ (visitR c i r).largest ≤ 400000 := by
  have h1 := (visitR_ok h.ok hi (by rw [← hf.len]; exact hi)).1
  have h2 := (hf.small hi).2.2.2.1
  have h3 := h.lar
  exact ⟨h1, Nat.max_le.2 ⟨h3, h2⟩⟩

theorem LpB.next {c : Ct} {i : Nat} {r : Rp} (h : LpB c i r) (hi : i < c.bs.length) : ((blkR2 c i r).err = 0 → blksR c (c.bs.length - (i + 1)) (i + 1) (blkR2 c i r) = blksR c c.bs.length 0 (rep0 c)) ∧ ((blkR2 c i r).err ≠ 0 → blkR2 c i r = blksR c c.bs.length 0 (rep0 c)) := by
  have hr := h.rest
  rw [show c.bs.length - i = (c.bs.length - (i + 1)) + 1 by omega, blksR] at hr
  refine ⟨fun h0 => ?_, fun h0 => ?_⟩
  · rw [if_pos h0] at hr; exact hr
  · rw [if_neg h0] at hr; exact hr

theorem LpE.start {c : Ct} {N n m i : Nat} {r : Rp} (h : LpB c i r) (hf : FitC c N n m) (hi : i < c.bs.length) (h0 : (ckB c i).err = 0) : LpE c i (ckB c i).out 0 (blkR2 c i r) (visitR c i r) := by
  obtain ⟨h1, h2⟩ := h.visit hf hi
  exact ⟨h0, by unfold blkR2; rw [if_pos h0]; rfl, h1, h2, (visitR_ok h.ok hi (by rw [← hf.len]; exact hi)).2⟩

theorem LpE.back {c : Ct} {i : Nat} {out : List Pr} {r r0 : Rp} (h : LpE c i out (succs (blkAt c.bs i).term).length (blkR2 c i r0) r) (hb : LpB c i r0) (hi : i < c.bs.length) : LpB c (i + 1) r := by
  have hd := h.done
  obtain ⟨h1, _⟩ := hb.next hi
  rw [hd] at h1
  refine ⟨h.err, h1 h.err, ⟨h.ok.blocks, ?_, h.ok.most, ?_⟩, h.lar⟩
  · rw [h.ok.edges, edN_step c.bs i hi, blkAt_lt hi]
    omega
  · have := h.ok.steps
    rw [edN_step c.bs i hi, Nat.add_zero]
    rw [blkAt_lt hi] at this
    exact this

theorem edgesR_end (c : Ct) (out : List Pr) (i k : Nat) (r : Rp) : edgesR c out i [] k r = r := rfl

end Go.Proofs.YtcoehkphdfejjaaGreat
