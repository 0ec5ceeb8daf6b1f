/-
  Runs of allocated functions in memory: three slices, each in a block of its own; a run at a block.
-/
import Derived.Test.YtabebkkicpcjcaaPk1
import Derived.Test.YtabebkkicpcjcaaRunCopy
import Derived.Test.YtabebkkicpcjcaaRunOwn
namespace Go.Proofs.Ytabebkkicpcjcaa
open Go.RowKit
set_option linter.unusedVariables false

/-- The slices of a run, each in a block of its own from lo on. -/
structure XV (w : World) (lo : Nat) (RA : Option Addr) (rc : Nat) (SA : Option Addr) (sc : Nat) (TA : Option Addr) (tc : Nat) (r : Xn) : Prop where
  regs : w.ownsRow lo 2 1 (.slice RA r.regs.length rc) r.regs.length (ints r.regs)
  slots : w.ownsRow lo 2 1 (.slice SA r.slots.length sc) r.slots.length (ints r.slots)
  trace : w.ownsRow lo 2 1 (.slice TA r.trace.length tc) r.trace.length (ints r.trace)
  rs : ∀ k, (Value.slice RA r.regs.length rc).ownBlock = some k → (Value.slice SA r.slots.length sc).ownBlock = some k → False
  rt : ∀ k, (Value.slice RA r.regs.length rc).ownBlock = some k → (Value.slice TA r.trace.length tc).ownBlock = some k → False
  st : ∀ k, (Value.slice SA r.slots.length sc).ownBlock = some k → (Value.slice TA r.trace.length tc).ownBlock = some k → False
section
variable {w w' : World} {lo : Nat} {RA SA TA : Option Addr} {rc sc tc : Nat} {r : Xn}
theorem XV.mods {S : Nat → Prop} (h : XV w lo RA rc SA sc TA tc r) (hm : Mods S w w') (hS : ∀ k, S k → k < lo ∨ w.heap.size ≤ k) : XV w' lo RA rc SA sc TA tc r :=
  ⟨hm.ownS h.regs fun k hk hs => by have := hS k hs; have := ownS_lt h.regs k hk; omega, hm.ownS h.slots fun k hk hs => by have := hS k hs; have := ownS_lt h.slots k hk; omega, hm.ownS h.trace fun k hk hs => by have := hS k hs; have := ownS_lt h.trace k hk; omega, h.rs, h.rt, h.st⟩
theorem XV.below (h : XV w lo RA rc SA sc TA tc r) (hb : Below w.heap.size w w') : XV w' lo RA rc SA sc TA tc r := h.mods (S := No) (Mods.of_below hb) fun _ h => h.elim
theorem XV.base (h : XV w lo RA rc SA sc TA tc r) {lo' : Nat} (hl : lo' ≤ lo) : XV w lo' RA rc SA sc TA tc r := ⟨ownS_base h.regs hl, ownS_base h.slots hl, ownS_base h.trace hl, h.rs, h.rt, h.st⟩
theorem XV.srs (h : XV w lo RA rc SA sc TA tc r) : Sees w w.heap.size RA (ints r.regs) := sees_own h.regs
theorem XV.sss (h : XV w lo RA rc SA sc TA tc r) : Sees w w.heap.size SA (ints r.slots) := sees_own h.slots
theorem XV.sts (h : XV w lo RA rc SA sc TA tc r) : Sees w w.heap.size TA (ints r.trace) := sees_own h.trace
theorem XV.zero (w : World) (lo : Nat) : XV w lo none 0 none 0 none 0 ⟨0, 0, 0, 0, [], [], [], 0⟩ :=
  ⟨own_none w lo _ _, own_none w lo _ _, own_none w lo _ _, fun k hk => by simp [Value.ownBlock] at hk, fun k hk => by simp [Value.ownBlock] at hk, fun k hk => by simp [Value.ownBlock] at hk⟩
theorem XV.lens (h : XV w lo RA rc SA sc TA tc r) : r.regs.length ≤ maxLen ∧ r.slots.length ≤ maxLen ∧ r.trace.length ≤ maxLen :=
  ⟨Nat.le_trans (own_len h.regs).1 (own_len h.regs).2, Nat.le_trans (own_len h.slots).1 (own_len h.slots).2, Nat.le_trans (own_len h.trace).1 (own_len h.trace).2⟩
end
/-- What the functions that return a run leave: the run, in memory of its own. -/
def XP (w : World) (r : Xn) (e : Ending) (w' : World) : Prop :=
  ∃ RA rc SA sc TA tc, e = .returned (.agg #[.int .i64 r.st, .int .i64 (r.blk : Int), .int .i64 (r.pos : Int), .int .i64 r.val, .slice RA r.regs.length rc, .slice SA r.slots.length sc, .slice TA r.trace.length tc, .int .i64 (r.steps : Int)]) ∧ XV w' w.heap.size RA rc SA sc TA tc r ∧ Below w.heap.size w w'
def XQ (w : World) (r : Xn) (er : Int) (e : Ending) (w' : World) : Prop :=
  ∃ RA rc SA sc TA tc, e = .returned (.tuple #[.agg #[.int .i64 r.st, .int .i64 (r.blk : Int), .int .i64 (r.pos : Int), .int .i64 r.val, .slice RA r.regs.length rc, .slice SA r.slots.length sc, .slice TA r.trace.length tc, .int .i64 (r.steps : Int)], .int .i64 er]) ∧ XV w' w.heap.size RA rc SA sc TA tc r ∧ Below w.heap.size w w'

/-- A run's cells. -/
def xcs (r : Xn) (RA : Option Addr) (rc : Nat) (SA : Option Addr) (sc : Nat) (TA : Option Addr) (tc : Nat) : List Value := [.int .i64 r.st, .int .i64 (r.blk : Int), .int .i64 (r.pos : Int), .int .i64 r.val, .slice RA r.regs.length rc, .slice SA r.slots.length sc, .slice TA r.trace.length tc, .int .i64 (r.steps : Int)]
/-- The run r at block q, of type T, with the cells ex behind it; its slices lie from block lo on. -/
structure Xp (w : World) (lo q : Nat) (T : TypeId) (ex : List Value) (RA : Option Addr) (rc : Nat) (SA : Option Addr) (sc : Nat) (TA : Option Addr) (tc : Nat) (r : Xn) : Prop where
  row : Row w q T (xcs r RA rc SA sc TA tc ++ ex).toArray
  v : XV w lo RA rc SA sc TA tc r
  lt : lo ≤ q
  ty : 2 ≠ T
/-- What the methods that change a run leave. -/
def XpP (w : World) (lo q : Nat) (T : TypeId) (ex : List Value) (r : Xn) (w' : World) : Prop :=
  ∃ RA rc SA sc TA tc, Xp w' lo q T ex RA rc SA sc TA tc r ∧ Below lo w w'
theorem Row.putL {w : World} {p : Nat} {T : TypeId} {l : List Value} (h : Row w p T l.toArray) (i : Nat) (u : Value) : Row (w.setCell ⟨p, i, none⟩ u) p T (l.set i u).toArray := by
  have := h.put i u
  rwa [List.setIfInBounds_toArray] at this
section
variable {w w' : World} {lo q : Nat} {T : TypeId} {ex : List Value} {RA SA TA : Option Addr} {rc sc tc : Nat} {r : Xn}
theorem Xp.nr (h : Xp w lo q T ex RA rc SA sc TA tc r) : ∀ k, (Value.slice RA r.regs.length rc).ownBlock = some k → k ≠ q := own_row_ne h.v.regs h.row h.ty
theorem Xp.ns (h : Xp w lo q T ex RA rc SA sc TA tc r) : ∀ k, (Value.slice SA r.slots.length sc).ownBlock = some k → k ≠ q := own_row_ne h.v.slots h.row h.ty
theorem Xp.nt (h : Xp w lo q T ex RA rc SA sc TA tc r) : ∀ k, (Value.slice TA r.trace.length tc).ownBlock = some k → k ≠ q := own_row_ne h.v.trace h.row h.ty
theorem Xp.cells (h : Xp w lo q T ex RA rc SA sc TA tc r) : w.cell? ⟨q, 0, none⟩ = some (.int .i64 r.st) ∧ w.cell? ⟨q, 1, none⟩ = some (.int .i64 (r.blk : Int)) ∧ w.cell? ⟨q, 2, none⟩ = some (.int .i64 (r.pos : Int)) ∧ w.cell? ⟨q, 3, none⟩ = some (.int .i64 r.val) ∧
    w.cell? ⟨q, 4, none⟩ = some (.slice RA r.regs.length rc) ∧ w.cell? ⟨q, 5, none⟩ = some (.slice SA r.slots.length sc) ∧ w.cell? ⟨q, 6, none⟩ = some (.slice TA r.trace.length tc) ∧ w.cell? ⟨q, 7, none⟩ = some (.int .i64 (r.steps : Int)) := by
  refine ⟨?_, ?_, ?_, ?_, ?_, ?_, ?_, ?_⟩
  all_goals
    rw [h.row.cell]
    simp [xcs]
theorem Xp.next (h : Xp w lo q T ex RA rc SA sc TA tc r) (hb : Below w.heap.size w w') : Xp w' lo q T ex RA rc SA sc TA tc r := ⟨h.row.below hb h.row.lt, h.v.below hb, h.lt, h.ty⟩
theorem Xp.drewN (h : Xp w lo q T ex RA rc SA sc TA tc r) (n : Nat) : Xp (w.drewN n) lo q T ex RA rc SA sc TA tc r := h.next (blw_drewN (Below.refl _ _) n)
theorem Xp.drew (h : Xp w lo q T ex RA rc SA sc TA tc r) : Xp w.drew lo q T ex RA rc SA sc TA tc r := h.drewN 1
theorem Xp.vput (h : Xp w lo q T ex RA rc SA sc TA tc r) (i : Nat) (u : Value) : XV (w.setCell ⟨q, i, none⟩ u) lo RA rc SA sc TA tc r :=
  have hm := (Mods.refl (Is q) w).put i u
  ⟨hm.ownS h.v.regs fun k hk hs => h.nr k hk hs, hm.ownS h.v.slots fun k hk hs => h.ns k hk hs, hm.ownS h.v.trace fun k hk hs => h.nt k hk hs, h.v.rs, h.v.rt, h.v.st⟩
theorem Xp.pSt (h : Xp w lo q T ex RA rc SA sc TA tc r) (s : Int) : Xp (w.setCell ⟨q, 0, none⟩ (.int .i64 s)) lo q T ex RA rc SA sc TA tc { r with st := s } := ⟨h.row.putL 0 _, { h.vput 0 (.int .i64 s) with }, h.lt, h.ty⟩
theorem Xp.pBlk (h : Xp w lo q T ex RA rc SA sc TA tc r) (k : Nat) : Xp (w.setCell ⟨q, 1, none⟩ (.int .i64 (k : Int))) lo q T ex RA rc SA sc TA tc { r with blk := k } := ⟨h.row.putL 1 _, { h.vput 1 (.int .i64 (k : Int)) with }, h.lt, h.ty⟩
theorem Xp.pPos (h : Xp w lo q T ex RA rc SA sc TA tc r) (k : Nat) : Xp (w.setCell ⟨q, 2, none⟩ (.int .i64 (k : Int))) lo q T ex RA rc SA sc TA tc { r with pos := k } := ⟨h.row.putL 2 _, { h.vput 2 (.int .i64 (k : Int)) with }, h.lt, h.ty⟩
theorem Xp.pVal (h : Xp w lo q T ex RA rc SA sc TA tc r) (v : Int) : Xp (w.setCell ⟨q, 3, none⟩ (.int .i64 v)) lo q T ex RA rc SA sc TA tc { r with val := v } := ⟨h.row.putL 3 _, { h.vput 3 (.int .i64 v) with }, h.lt, h.ty⟩
theorem Xp.pSteps (h : Xp w lo q T ex RA rc SA sc TA tc r) (k : Nat) : Xp (w.setCell ⟨q, 7, none⟩ (.int .i64 (k : Int))) lo q T ex RA rc SA sc TA tc { r with steps := k } := ⟨h.row.putL 7 _, { h.vput 7 (.int .i64 (k : Int)) with }, h.lt, h.ty⟩
/-- A register is set; a slot. -/
theorem Xp.setreg {g k : Nat} {v : Int} (h : Xp w lo q T ex (some ⟨g, 0, none⟩) rc SA sc TA tc r) (hk : k < r.regs.length) :
    Xp (w.setCell ⟨g, k, none⟩ (.int .i64 v)) lo q T ex (some ⟨g, 0, none⟩) rc SA sc TA tc { r with regs := r.regs.set k v } ∧ Below lo w (w.setCell ⟨g, k, none⟩ (.int .i64 v)) := by
  have hl : (r.regs.set k v).length = r.regs.length := by simp
  have hgq := h.nr g rfl
  have hlg := (ownS_lt h.v.regs g rfl).1
  have h1 := ownS_put h.v.regs (g := g) rfl (j := k) (by rw [ints_length]; exact hk) (.int .i64 v)
  have hm := (Mods.refl (Is g) w).put k (.int .i64 v)
  refine ⟨⟨?_, ⟨?_, hm.ownS h.v.slots fun j hj hs => h.v.rs g rfl (by unfold Is at hs; rw [hj, hs]), hm.ownS h.v.trace fun j hj hs => h.v.rt g rfl (by unfold Is at hs; rw [hj, hs]), ?_, ?_, h.v.st⟩, h.lt, h.ty⟩, (Below.refl _ _).setCell (by show lo ≤ g; exact hlg) _⟩
  · have := h.row.far (q := ⟨g, k, none⟩) (fun e => hgq e.symm) (.int .i64 v)
    unfold xcs at this ⊢
    rw [← hl] at this
    exact this
  · rw [ints_set]
    rw [← hl] at h1
    exact h1
  · intro j hj ht
    rw [hl] at hj
    exact h.v.rs j hj ht
  · intro j hj ht
    rw [hl] at hj
    exact h.v.rt j hj ht
theorem Xp.setslot {g k : Nat} {v : Int} (h : Xp w lo q T ex RA rc (some ⟨g, 0, none⟩) sc TA tc r) (hk : k < r.slots.length) :
    Xp (w.setCell ⟨g, k, none⟩ (.int .i64 v)) lo q T ex RA rc (some ⟨g, 0, none⟩) sc TA tc { r with slots := r.slots.set k v } ∧ Below lo w (w.setCell ⟨g, k, none⟩ (.int .i64 v)) := by
  have hl : (r.slots.set k v).length = r.slots.length := by simp
  have hgq := h.ns g rfl
  have hlg := (ownS_lt h.v.slots g rfl).1
  have h1 := ownS_put h.v.slots (g := g) rfl (j := k) (by rw [ints_length]; exact hk) (.int .i64 v)
  have hm := (Mods.refl (Is g) w).put k (.int .i64 v)
  refine ⟨⟨?_, ⟨hm.ownS h.v.regs fun j hj hs => h.v.rs g (by unfold Is at hs; rw [← hs]; exact hj) rfl, ?_, hm.ownS h.v.trace fun j hj hs => h.v.st g rfl (by unfold Is at hs; rw [hj, hs]), ?_, h.v.rt, ?_⟩, h.lt, h.ty⟩, (Below.refl _ _).setCell (by show lo ≤ g; exact hlg) _⟩
  · have := h.row.far (q := ⟨g, k, none⟩) (fun e => hgq e.symm) (.int .i64 v)
    unfold xcs at this ⊢
    rw [← hl] at this
    exact this
  · rw [ints_set]
    rw [← hl] at h1
    exact h1
  · intro j hj ht
    rw [hl] at ht
    exact h.v.rs j hj ht
  · intro j hj ht
    rw [hl] at hj
    exact h.v.st j hj ht
theorem XV.regc {g k : Nat} (h : XV w lo (some ⟨g, 0, none⟩) rc SA sc TA tc r) (hk : k < r.regs.length) : w.cell? ⟨g, k, none⟩ = some (.int .i64 (rg r.regs (k : Int))) := by
  obtain ⟨g', e, hc⟩ := regs_at h.regs hk
  injection e with e
  injection e with e _ _
  subst e
  exact hc
theorem XV.slotc {g k : Nat} (h : XV w lo RA rc (some ⟨g, 0, none⟩) sc TA tc r) (hk : k < r.slots.length) : w.cell? ⟨g, k, none⟩ = some (.int .i64 (rg r.slots (k : Int))) := by
  obtain ⟨g', e, hc⟩ := regs_at h.slots hk
  injection e with e
  injection e with e _ _
  subst e
  exact hc
/-- The trace with one value more. -/
theorem Xp.app {W : World} (h : Xp w lo q T ex RA rc SA sc TA tc r) (x : Int) (o : Obj) (hg : (w.alloc o).grownBy W (Value.slice TA r.trace.length tc).ownBlock) {A1 : Option Addr} {c1 : Nat}
    (ho : W.ownsRow lo 2 1 (.slice A1 (r.trace.length + 1) c1) (r.trace.length + 1) (ints (r.trace ++ [x]))) (ha : (Value.slice A1 (r.trace.length + 1) c1).ownBlock = (Value.slice TA r.trace.length tc).ownBlock ∨ (Value.slice A1 (r.trace.length + 1) c1).ownBlock = some (w.alloc o).heap.size) :
    Row W q T (xcs r RA rc SA sc TA tc ++ ex).toArray ∧ Xp (W.setCell ⟨q, 6, none⟩ (.slice A1 (r.trace.length + 1) c1)) lo q T ex RA rc SA sc A1 c1 { r with trace := r.trace ++ [x] } ∧ Below lo w (W.setCell ⟨q, 6, none⟩ (.slice A1 (r.trace.length + 1) c1)) := by
  have hql := h.row.lt
  have hlq := h.lt
  have hb : ∀ k, k < w.heap.size → (∀ j, (Value.slice TA r.trace.length tc).ownBlock = some j → ¬ k = j) → W.heap[k]? = w.heap[k]? := fun k hk hn =>
    (hg.block k (by simp; omega) fun e => hn _ e.symm rfl).trans (Below.heap_alloc w o k hk)
  have hrow : Row W q T (xcs r RA rc SA sc TA tc ++ ex).toArray := (hb q hql fun j hj e => h.nt j hj e.symm).trans h.row
  have hmd : Mods (fun k => (Value.slice TA r.trace.length tc).ownBlock = some k) w W := ⟨hg.os, hg.tape, hg.output, Nat.le_trans (by simp) hg.size, fun k hk hn => hb k hk fun j hj e => hn (e ▸ hj)⟩
  have hR : W.ownsRow lo 2 1 (.slice RA r.regs.length rc) r.regs.length (ints r.regs) := hmd.ownS h.v.regs fun k hk hs => h.v.rt k hk hs
  have hS : W.ownsRow lo 2 1 (.slice SA r.slots.length sc) r.slots.length (ints r.slots) := hmd.ownS h.v.slots fun k hk hs => h.v.st k hk hs
  have hnt := own_row_ne ho hrow h.ty
  have hm := (Mods.refl (Is q) W).put 6 (.slice A1 (r.trace.length + 1) c1)
  have hl : (r.trace ++ [x]).length = r.trace.length + 1 := by simp
  refine ⟨hrow, ⟨?_, ⟨hm.ownS hR fun k hk hs => h.nr k hk hs, hm.ownS hS fun k hk hs => h.ns k hk hs, ?_, h.v.rs, ?_, ?_⟩, h.lt, h.ty⟩, ?_⟩
  · have := hrow.putL 6 (.slice A1 (r.trace.length + 1) c1)
    rw [← hl] at this ⊢
    exact this
  · have := hm.ownS ho fun k hk hs => hnt k hk hs
    rw [← hl] at this ⊢
    exact this
  · intro k hk ht
    rw [show (Value.slice A1 (r.trace ++ [x]).length c1).ownBlock = (Value.slice A1 (r.trace.length + 1) c1).ownBlock from by rw [hl]] at ht
    rcases ha with ha | ha
    · exact h.v.rt k hk (ha ▸ ht)
    · rw [ha] at ht
      injection ht with ht
      have := (ownS_lt h.v.regs k hk).2
      simp at ht
      omega
  · intro k hk ht
    rw [show (Value.slice A1 (r.trace ++ [x]).length c1).ownBlock = (Value.slice A1 (r.trace.length + 1) c1).ownBlock from by rw [hl]] at ht
    rcases ha with ha | ha
    · exact h.v.st k hk (ha ▸ ht)
    · rw [ha] at ht
      injection ht with ht
      have := (ownS_lt h.v.slots k hk).2
      simp at ht
      omega
  · exact (hmd.below (by omega) fun k hk => (ownS_lt h.v.trace k hk).1).setCell (by show lo ≤ q; omega) _
end

end Go.Proofs.Ytabebkkicpcjcaa
