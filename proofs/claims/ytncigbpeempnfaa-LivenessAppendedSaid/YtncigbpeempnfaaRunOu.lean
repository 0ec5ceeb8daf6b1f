/-
  A run at a block of its own, as the reference keeps it (written by wip/lab/genou.py).
-/
import Derived.Test.YtncigbpeempnfaaPk8
namespace Go.Proofs.Ytncigbpeempnfaa
open Go.RowKit
set_option linter.unusedVariables false

/-- The run r at block z; its slices lie from block lo on. -/
structure Ou (w : World) (lo q : Nat) (RA : Option Addr) (rc : Nat) (SA : Option Addr) (sc : Nat) (TA : Option Addr) (tc : Nat) (r : Rn) : Prop where
  row : Row w q 46 #[.int .i64 r.st, .int .i64 (r.blk : Int), .int .i64 (r.pos : Int), .int .i64 r.val, .slice RA r.regs.length rc, .slice SA 0 sc, .slice TA r.trace.length tc, .int .i64 (r.steps : Int)]
  v : RunV w lo RA rc TA tc r
  lt : lo ≤ q

section
variable {w w' : World} {lo q : Nat} {RA SA TA : Option Addr} {rc sc tc : Nat} {r : Rn}

theorem Ou.nr (h : Ou w lo q RA rc SA sc TA tc r) : ∀ k, (Value.slice RA r.regs.length rc).ownBlock = some k → k ≠ q := own_row_ne h.v.regs h.row (by decide)

theorem Ou.nt (h : Ou w lo q RA rc SA sc TA tc r) : ∀ k, (Value.slice TA r.trace.length tc).ownBlock = some k → k ≠ q := own_row_ne h.v.trace h.row (by decide)

theorem Ou.next (h : Ou w lo q RA rc SA sc TA tc r) (hb : Below w.heap.size w w') : Ou w' lo q RA rc SA sc TA tc r := ⟨h.row.below hb h.row.lt, h.v.below hb, h.lt⟩

theorem Ou.drewN (h : Ou w lo q RA rc SA sc TA tc r) (n : Nat) : Ou (w.drewN n) lo q RA rc SA sc TA tc r := h.next (blw_drewN (Below.refl _ _) n)

theorem Ou.drew (h : Ou w lo q RA rc SA sc TA tc r) : Ou w.drew lo q RA rc SA sc TA tc r := h.drewN 1

theorem vputo (h : Ou w lo q RA rc SA sc TA tc r) (i : Nat) (u : Value) : RunV (w.setCell ⟨q, i, none⟩ u) lo RA rc TA tc r :=
  have hm := (Mods.refl (Is q) w).put i u
  ⟨hm.ownS h.v.regs fun k hk hs => h.nr k hk hs, hm.ownS h.v.trace fun k hk hs => h.nt k hk hs, h.v.ne⟩

/-- The trace with one value more. -/
theorem Ou.app {W : World} (h : Ou w lo q RA rc SA sc TA tc r) (x : Int) (o : Obj) (hg : (w.alloc o).grownBy W (Value.slice TA r.trace.length tc).ownBlock) {A1 : Option Addr} {c1 : Nat}
    (ho : W.ownsRow lo 2 1 (.slice A1 (r.trace.length + 1) c1) (r.trace.length + 1) (ints (r.trace ++ [x]))) (ha : (Value.slice A1 (r.trace.length + 1) c1).ownBlock = (Value.slice TA r.trace.length tc).ownBlock ∨ (Value.slice A1 (r.trace.length + 1) c1).ownBlock = some (w.alloc o).heap.size) :
    Row W q 46 #[.int .i64 r.st, .int .i64 (r.blk : Int), .int .i64 (r.pos : Int), .int .i64 r.val, .slice RA r.regs.length rc, .slice SA 0 sc, .slice TA r.trace.length tc, .int .i64 (r.steps : Int)] ∧
    Ou (W.setCell ⟨q, 6, none⟩ (.slice A1 (r.trace.length + 1) c1)) lo q RA rc SA sc A1 c1 { r with trace := r.trace ++ [x] } ∧ Below lo w (W.setCell ⟨q, 6, none⟩ (.slice A1 (r.trace.length + 1) c1)) := by
  have hql := h.row.lt
  have hlq := h.lt
  have hb : ∀ k, k < w.heap.size → (∀ j, (Value.slice TA r.trace.length tc).ownBlock = some j → ¬ k = j) → W.heap[k]? = w.heap[k]? := fun k hk hn =>
    (hg.block k (by simp; omega) fun e => hn _ e.symm rfl).trans (Below.heap_alloc w o k hk)
  have hrow : Row W q 46 #[.int .i64 r.st, .int .i64 (r.blk : Int), .int .i64 (r.pos : Int), .int .i64 r.val, .slice RA r.regs.length rc, .slice SA 0 sc, .slice TA r.trace.length tc, .int .i64 (r.steps : Int)] :=
    (hb q hql fun j hj e => h.nt j hj e.symm).trans h.row
  have hmd : Mods (fun k => (Value.slice TA r.trace.length tc).ownBlock = some k) w W := ⟨hg.os, hg.tape, hg.output, Nat.le_trans (by simp) hg.size, fun k hk hn => hb k hk fun j hj e => hn (e ▸ hj)⟩
  have hR : W.ownsRow lo 2 1 (.slice RA r.regs.length rc) r.regs.length (ints r.regs) := hmd.ownS h.v.regs fun k hk hs => h.v.ne k hk hs
  have hnt := own_row_ne ho hrow (by decide)
  have hm := (Mods.refl (Is q) W).put 6 (.slice A1 (r.trace.length + 1) c1)
  have hl : (r.trace ++ [x]).length = r.trace.length + 1 := by simp
  refine ⟨hrow, ⟨?_, ⟨hm.ownS hR fun k hk hs => h.nr k hk hs, ?_, ?_⟩, h.lt⟩, ?_⟩
  · have := hrow.put 6 (.slice A1 (r.trace.length + 1) c1)
    rw [← hl] at this ⊢
    exact this
  · have := hm.ownS ho fun k hk hs => hnt k hk hs
    rw [← hl] at this ⊢
    exact this
  · intro k hk ht
    rw [show (Value.slice A1 (r.trace ++ [x]).length c1).ownBlock = (Value.slice A1 (r.trace.length + 1) c1).ownBlock from by rw [hl]] at ht
    rcases ha with ha | ha
    · exact h.v.ne k hk (ha ▸ ht)
    · rw [ha] at ht
      injection ht with ht
      have := (ownS_lt h.v.regs k hk).2
      simp at ht
      omega
  · exact (hmd.below (by omega) fun k hk => (ownS_lt h.v.trace k hk).1).setCell (by show lo ≤ q; omega) _

/-- A register is set. -/
theorem Ou.setreg {g k : Nat} {v : Int} (h : Ou w lo q (some ⟨g, 0, none⟩) rc SA sc TA tc r) (hk : k < r.regs.length) :
    Ou (w.setCell ⟨g, k, none⟩ (.int .i64 v)) lo q (some ⟨g, 0, none⟩) rc SA sc TA tc { r with regs := r.regs.set k v } ∧ Below lo w (w.setCell ⟨g, k, none⟩ (.int .i64 v)) := by
  have hl : (r.regs.set k v).length = r.regs.length := by simp
  have hgq := h.nr g rfl
  have hlg := (ownS_lt h.v.regs g rfl).1
  have h1 := ownS_put h.v.regs (g := g) rfl (j := k) (by rw [ints_length]; exact hk) (.int .i64 v)
  have hm := (Mods.refl (Is g) w).put k (.int .i64 v)
  refine ⟨⟨?_, ⟨?_, hm.ownS h.v.trace fun j hj hs => h.v.ne g rfl (by unfold Is at hs; rw [hj, hs]), ?_⟩, h.lt⟩, (Below.refl _ _).setCell (by show lo ≤ g; exact hlg) _⟩
  · have := h.row.far (q := ⟨g, k, none⟩) (fun e => hgq e.symm) (.int .i64 v)
    rw [← hl] at this
    exact this
  · rw [ints_set]
    rw [← hl] at h1
    exact h1
  · intro j hj ht
    rw [hl] at hj
    exact h.v.ne j hj ht

theorem reg_cello {g k : Nat} (h : Ou w lo q (some ⟨g, 0, none⟩) rc SA sc TA tc r) (hk : k < r.regs.length) : w.cell? ⟨g, k, none⟩ = some (.int .i64 (rg r.regs (k : Int))) := by
  obtain ⟨g', e, hc⟩ := regs_at h.v.regs hk
  injection e with e
  injection e with e _ _
  subst e
  exact hc

theorem Ou.pSt (h : Ou w lo q RA rc SA sc TA tc r) (s : Int) : Ou (w.setCell ⟨q, 0, none⟩ (.int .i64 s)) lo q RA rc SA sc TA tc { r with st := s } := ⟨h.row.put 0 _, ⟨(vputo h 0 _).regs, (vputo h 0 _).trace, h.v.ne⟩, h.lt⟩

theorem Ou.pBlk (h : Ou w lo q RA rc SA sc TA tc r) (k : Nat) : Ou (w.setCell ⟨q, 1, none⟩ (.int .i64 (k : Int))) lo q RA rc SA sc TA tc { r with blk := k } := ⟨h.row.put 1 _, ⟨(vputo h 1 _).regs, (vputo h 1 _).trace, h.v.ne⟩, h.lt⟩

theorem Ou.pPos (h : Ou w lo q RA rc SA sc TA tc r) (k : Nat) : Ou (w.setCell ⟨q, 2, none⟩ (.int .i64 (k : Int))) lo q RA rc SA sc TA tc { r with pos := k } := ⟨h.row.put 2 _, ⟨(vputo h 2 _).regs, (vputo h 2 _).trace, h.v.ne⟩, h.lt⟩

theorem Ou.pVal (h : Ou w lo q RA rc SA sc TA tc r) (v : Int) : Ou (w.setCell ⟨q, 3, none⟩ (.int .i64 v)) lo q RA rc SA sc TA tc { r with val := v } := ⟨h.row.put 3 _, ⟨(vputo h 3 _).regs, (vputo h 3 _).trace, h.v.ne⟩, h.lt⟩

theorem Ou.pSteps (h : Ou w lo q RA rc SA sc TA tc r) (k : Nat) : Ou (w.setCell ⟨q, 7, none⟩ (.int .i64 (k : Int))) lo q RA rc SA sc TA tc { r with steps := k } := ⟨h.row.put 7 _, ⟨(vputo h 7 _).regs, (vputo h 7 _).trace, h.v.ne⟩, h.lt⟩

end

end Go.Proofs.Ytncigbpeempnfaa
