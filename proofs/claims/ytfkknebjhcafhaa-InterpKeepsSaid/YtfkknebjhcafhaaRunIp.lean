/-
  The program's interpreter in memory.
-/
import Derived.Test.YtfkknebjhcafhaaRunStart
namespace Go.Proofs.Ytfkknebjhcafhaa
open Go.RowKit
set_option linter.unusedVariables false

/-- The interpreter at block q with the run r; the run's slices lie from block lo on. -/
structure Ip (w : World) (lo q : Nat) (RA : Option Addr) (rc : Nat) (SA : Option Addr) (sc : Nat) (TA : Option Addr) (tc : Nat) (BA : Option Addr) (bl bc : Nat) (r : Rn) : Prop where
  row : Row w q 55 #[.int .i64 r.st, .int .i64 (r.blk : Int), .int .i64 (r.pos : Int), .int .i64 r.val, .slice RA r.regs.length rc, .slice SA 0 sc, .slice TA r.trace.length tc, .int .i64 (r.steps : Int), .slice BA bl bc]
  v : RunV w lo RA rc TA tc r
  lt : lo ≤ q
/-- What the interpreter's methods leave. -/
def IpP (w : World) (lo q : Nat) (SA : Option Addr) (sc : Nat) (BA : Option Addr) (bl bc : Nat) (r : Rn) (w' : World) : Prop :=
  ∃ RA rc TA tc, Ip w' lo q RA rc SA sc TA tc BA bl bc r ∧ Below lo w w'
section
variable {w w' : World} {lo q : Nat} {RA SA TA BA : Option Addr} {rc sc tc bl bc : Nat} {r : Rn}
theorem Ip.nr (h : Ip w lo q RA rc SA sc TA tc BA bl bc r) : ∀ k, (Value.slice RA r.regs.length rc).ownBlock = some k → k ≠ q := own_row_ne h.v.regs h.row (by decide)
theorem Ip.nt (h : Ip w lo q RA rc SA sc TA tc BA bl bc r) : ∀ k, (Value.slice TA r.trace.length tc).ownBlock = some k → k ≠ q := own_row_ne h.v.trace h.row (by decide)
theorem Ip.next (h : Ip w lo q RA rc SA sc TA tc BA bl bc r) (hb : Below w.heap.size w w') : Ip w' lo q RA rc SA sc TA tc BA bl bc r := ⟨h.row.below hb h.row.lt, h.v.below hb, h.lt⟩
theorem Ip.drewN (h : Ip w lo q RA rc SA sc TA tc BA bl bc r) (n : Nat) : Ip (w.drewN n) lo q RA rc SA sc TA tc BA bl bc r := h.next (blw_drewN (Below.refl _ _) n)
theorem Ip.drew (h : Ip w lo q RA rc SA sc TA tc BA bl bc r) : Ip w.drew lo q RA rc SA sc TA tc BA bl bc r := h.drewN 1
theorem vput (h : Ip w lo q RA rc SA sc TA tc BA bl bc r) (i : Nat) (u : Value) : RunV (w.setCell ⟨q, i, none⟩ u) lo RA rc TA tc r :=
  have hm := (Mods.refl (Is q) w).put i u
  ⟨hm.ownS h.v.regs fun k hk hs => h.nr k hk hs, hm.ownS h.v.trace fun k hk hs => h.nt k hk hs, h.v.ne⟩
theorem Below.put27 {B : Nat} {a W : World} {q : Nat} (h : Below B a W) (hq : B ≤ q) (u v : Value) : Below B a ((W.setCell ⟨q, 2, none⟩ u).setCell ⟨q, 7, none⟩ v) := (h.setCell (p := ⟨q, 2, none⟩) hq u).setCell (p := ⟨q, 7, none⟩) hq v
/-- One more instruction, one more step. -/
theorem Ip.tick (h : Ip w lo q RA rc SA sc TA tc BA bl bc r) : Ip ((w.setCell ⟨q, 2, none⟩ (.int .i64 ((r.pos + 1 : Nat) : Int))).setCell ⟨q, 7, none⟩ (.int .i64 ((r.steps + 1 : Nat) : Int))) lo q RA rc SA sc TA tc BA bl bc { r with pos := r.pos + 1, steps := r.steps + 1 } := by
  have h1 : Ip (w.setCell ⟨q, 2, none⟩ (.int .i64 ((r.pos + 1 : Nat) : Int))) lo q RA rc SA sc TA tc BA bl bc { r with pos := r.pos + 1 } := ⟨h.row.put 2 _, ⟨(vput h 2 _).regs, (vput h 2 _).trace, h.v.ne⟩, h.lt⟩
  exact ⟨h1.row.put 7 _, ⟨(vput h1 7 _).regs, (vput h1 7 _).trace, h.v.ne⟩, h.lt⟩
theorem regs_at {e : TypeId} {c n k : Nat} {l : List Int} {A : Option Addr} (h : w.ownsRow lo e 1 (.slice A n c) n (ints l)) (hk : k < l.length) : ∃ g, A = some ⟨g, 0, none⟩ ∧ w.cell? ⟨g, k, none⟩ = some (.int .i64 (rg l (k : Int))) := by
  rw [rg_nat hk]
  rcases h.2 with ⟨h0, h1⟩ | ⟨g, cap, cur, hv, _, hg, _⟩
  · have := h.1
    rw [ints_length] at this
    injection h0 with _ h2 _
    omega
  · injection hv with hA
    subst hA
    exact ⟨g, rfl, by have := h.cells (g := g) rfl k _ (ints_get hk); simpa [Addr.add_lit] using this⟩
/-- The trace with one value more. -/
theorem Ip.app {W : World} (h : Ip w lo q RA rc SA sc TA tc BA bl bc r) (x : Int) (o : Obj) (hg : (w.alloc o).grownBy W (Value.slice TA r.trace.length tc).ownBlock) {A1 : Option Addr} {c1 : Nat}
    (ho : W.ownsRow lo 2 1 (.slice A1 (r.trace.length + 1) c1) (r.trace.length + 1) (ints (r.trace ++ [x]))) (ha : (Value.slice A1 (r.trace.length + 1) c1).ownBlock = (Value.slice TA r.trace.length tc).ownBlock ∨ (Value.slice A1 (r.trace.length + 1) c1).ownBlock = some (w.alloc o).heap.size) :
    Row W q 55 #[.int .i64 r.st, .int .i64 (r.blk : Int), .int .i64 (r.pos : Int), .int .i64 r.val, .slice RA r.regs.length rc, .slice SA 0 sc, .slice TA r.trace.length tc, .int .i64 (r.steps : Int), .slice BA bl bc] ∧
    Ip (W.setCell ⟨q, 6, none⟩ (.slice A1 (r.trace.length + 1) c1)) lo q RA rc SA sc A1 c1 BA bl bc { r with trace := r.trace ++ [x] } ∧ Below lo w (W.setCell ⟨q, 6, none⟩ (.slice A1 (r.trace.length + 1) c1)) := by
  have hql := h.row.lt
  have hlq := h.lt
  have hb : ∀ k, k < w.heap.size → (∀ j, (Value.slice TA r.trace.length tc).ownBlock = some j → ¬ k = j) → W.heap[k]? = w.heap[k]? := fun k hk hn =>
    (hg.block k (by simp; omega) fun e => hn _ e.symm rfl).trans (Below.heap_alloc w o k hk)
  have hrow : Row W q 55 #[.int .i64 r.st, .int .i64 (r.blk : Int), .int .i64 (r.pos : Int), .int .i64 r.val, .slice RA r.regs.length rc, .slice SA 0 sc, .slice TA r.trace.length tc, .int .i64 (r.steps : Int), .slice BA bl bc] :=
    (hb q hql fun j hj e => h.nt j hj e.symm).trans h.row
  have hmd : Mods (fun k => (Value.slice TA r.trace.length tc).ownBlock = some k) w W := ⟨hg.os, hg.tape, hg.output, Nat.le_trans (by simp) hg.size, fun k hk hn => hb k hk fun j hj e => hn (e ▸ hj)⟩
  have hR : W.ownsRow lo 2 1 (.slice RA r.regs.length rc) r.regs.length (ints r.regs) := hmd.ownS h.v.regs fun k hk hs => h.v.ne k hk hs
  have hnt := own_row_ne ho hrow (by decide)
  have hm := (Mods.refl (Is q) W).put 6 (.slice A1 (r.trace.length + 1) c1)
  have hl : (r.trace ++ [x]).length = r.trace.length + 1 := by simp
  refine ⟨hrow, ⟨?_, ⟨hm.ownS hR fun k hk hs => h.nr k hk hs, ?_, ?_⟩, h.lt⟩, ?_⟩
  · have := hrow.put 6 (.slice A1 (r.trace.length + 1) c1)
    rw [← hl] at this ⊢
    exact this
  · have := hm.ownS ho fun k hk hs => hnt k hk hs
    rw [← hl] at this ⊢
    exact this
  · intro k hk ht
    rw [show (Value.slice A1 (r.trace ++ [x]).length c1).ownBlock = (Value.slice A1 (r.trace.length + 1) c1).ownBlock from by rw [hl]] at ht
    rcases ha with ha | ha
    · exact h.v.ne k hk (ha ▸ ht)
    · rw [ha] at ht
      injection ht with ht
      have := (ownS_lt h.v.regs k hk).2
      simp at ht
      omega
  · exact (hmd.below (by omega) fun k hk => (ownS_lt h.v.trace k hk).1).setCell (by show lo ≤ q; omega) _
end

end Go.Proofs.Ytfkknebjhcafhaa
