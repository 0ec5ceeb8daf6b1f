import Derived.Test.YtcoehkphdfejjaaPk1
import Derived.Test.YtcoehkphdfejjaaPk8
import Derived.Deep.QuietTactic
import Derived.BigQuiet
import Derived.Deep.RegionHeld3
import Derived.Deep.DeepMust
import Derived.RegionTactic
import Derived.ChangeAlike
import Derived.StillTailTactics
import Derived.Laws.CopyOwn
import Derived.Laws.OwnMore
import Derived.Deep.OwnRows
import Derived.Deep.LoopGhost

/-
  Runs of allocated functions in memory: three slices, each in a block of its own; a run at a block.
-/
namespace Go.Proofs.Ytcoehkphdfejjaa
open Go.RowKit
set_option linter.unusedVariables false

/-- The slices of a run, each in a block of its own from lo on. -/
structure XV (w : World) (lo : Nat) (RA : Option Addr) (rc : Nat) (SA : Option Addr) (sc : Nat) (TA : Option Addr) (tc : Nat) (r : Xn) : Prop where
  regs : w.ownsRow lo 2 1 (.slice RA r.regs.length rc) r.regs.length (ints r.regs)
  slots : w.ownsRow lo 2 1 (.slice SA r.slots.length sc) r.slots.length (ints r.slots)
  trace : w.ownsRow lo 2 1 (.slice TA r.trace.length tc) r.trace.length (ints r.trace)
  rs : ∀ k, (Value.slice RA r.regs.length rc).ownBlock = some k → (Value.slice SA r.slots.length sc).ownBlock = some k → False
  rt : ∀ k, (Value.slice RA r.regs.length rc).ownBlock = some k → (Value.slice TA r.trace.length tc).ownBlock = some k → False
  st : ∀ k, (Value.slice SA r.slots.length sc).ownBlock = some k → (Value.slice TA r.trace.length tc).ownBlock = some k → False

section
variable {w w' : World} {lo : Nat} {RA SA TA : Option Addr} {rc sc tc : Nat} {r : Xn}

theorem XV.mods {S : Nat → Prop} (h : XV w lo RA rc SA sc TA tc r) (hm : Mods S w w') (hS : ∀ k, S k → k < lo ∨ w.heap.size ≤ k) : XV w' lo RA rc SA sc TA tc r :=
  ⟨hm.ownS h.regs fun k hk hs => by have := hS k hs; have := ownS_lt h.regs k hk; omega, hm.ownS h.slots fun k hk hs => by have := hS k hs; have := ownS_lt h.slots k hk; omega, hm.ownS h.trace fun k hk hs => by have := hS k hs; have := ownS_lt h.trace k hk; omega, h.rs, h.rt, h.st⟩

theorem XV.below (h : XV w lo RA rc SA sc TA tc r) (hb : Below w.heap.size w w') : XV w' lo RA rc SA sc TA tc r := h.mods (S := No) (Mods.of_below hb) fun _ h => h.elim

theorem XV.base (h : XV w lo RA rc SA sc TA tc r) {lo' : Nat} (hl : lo' ≤ lo) : XV w lo' RA rc SA sc TA tc r := ⟨ownS_base h.regs hl, ownS_base h.slots hl, ownS_base h.trace hl, h.rs, h.rt, h.st⟩

theorem XV.srs (h : XV w lo RA rc SA sc TA tc r) : Sees w w.heap.size RA (ints r.regs) := sees_own h.regs

theorem XV.sss (h : XV w lo RA rc SA sc TA tc r) : Sees w w.heap.size SA (ints r.slots) := sees_own h.slots

theorem XV.sts (h : XV w lo RA rc SA sc TA tc r) : Sees w w.heap.size TA (ints r.trace) := sees_own h.trace

theorem XV.zero (w : World) (lo : Nat) : XV w lo none 0 none 0 none 0 ⟨0, 0, 0, 0, [], [], [], 0⟩ :=
  ⟨own_none w lo _ _, own_none w lo _ _, own_none w lo _ _, fun k hk => by simp [Value.ownBlock] at hk, fun k hk => by simp [Value.ownBlock] at hk, fun k hk => by simp [Value.ownBlock] at hk⟩

theorem XV.lens (h : XV w lo RA rc SA sc TA tc r) : r.regs.length ≤ maxLen ∧ r.slots.length ≤ maxLen ∧ r.trace.length ≤ maxLen :=
  ⟨Nat.le_trans (own_len h.regs).1 (own_len h.regs).2, Nat.le_trans (own_len h.slots).1 (own_len h.slots).2, Nat.le_trans (own_len h.trace).1 (own_len h.trace).2⟩

end

/-- What the functions that return a run leave: the run, in memory of its own. -/
def XP (w : World) (r : Xn) (e : Ending) (w' : World) : Prop :=
  ∃ RA rc SA sc TA tc, e = .returned (.agg #[.int .i64 r.st, .int .i64 (r.blk : Int), .int .i64 (r.pos : Int), .int .i64 r.val, .slice RA r.regs.length rc, .slice SA r.slots.length sc, .slice TA r.trace.length tc, .int .i64 (r.steps : Int)]) ∧ XV w' w.heap.size RA rc SA sc TA tc r ∧ Below w.heap.size w w'

def XQ (w : World) (r : Xn) (er : Int) (e : Ending) (w' : World) : Prop :=
  ∃ RA rc SA sc TA tc, e = .returned (.tuple #[.agg #[.int .i64 r.st, .int .i64 (r.blk : Int), .int .i64 (r.pos : Int), .int .i64 r.val, .slice RA r.regs.length rc, .slice SA r.slots.length sc, .slice TA r.trace.length tc, .int .i64 (r.steps : Int)], .int .i64 er]) ∧ XV w' w.heap.size RA rc SA sc TA tc r ∧ Below w.heap.size w w'

/-- A run's cells. -/
def xcs (r : Xn) (RA : Option Addr) (rc : Nat) (SA : Option Addr) (sc : Nat) (TA : Option Addr) (tc : Nat) : List Value := [.int .i64 r.st, .int .i64 (r.blk : Int), .int .i64 (r.pos : Int), .int .i64 r.val, .slice RA r.regs.length rc, .slice SA r.slots.length sc, .slice TA r.trace.length tc, .int .i64 (r.steps : Int)]

/-- The run r at block q, of type T, with the cells ex behind it; its slices lie from block lo on. -/
structure Xp (w : World) (lo q : Nat) (T : TypeId) (ex : List Value) (RA : Option Addr) (rc : Nat) (SA : Option Addr) (sc : Nat) (TA : Option Addr) (tc : Nat) (r : Xn) : Prop where
  row : Row w q T (xcs r RA rc SA sc TA tc ++ ex).toArray
  v : XV w lo RA rc SA sc TA tc r
  lt : lo ≤ q
  ty : 2 ≠ T

/-- What the methods that change a run leave. -/
def XpP (w : World) (lo q : Nat) (T : TypeId) (ex : List Value) (r : Xn) (w' : World) : Prop :=
  ∃ RA rc SA sc TA tc, Xp w' lo q T ex RA rc SA sc TA tc r ∧ Below lo w w'

theorem Row.putL {w : World} {p : Nat} {T : TypeId} {l : List Value} (h : Row w p T l.toArray) (i : Nat) (u : Value) : Row (w.setCell ⟨p, i, none⟩ u) p T (l.set i u).toArray := by
  have := h.put i u
  rwa [List.setIfInBounds_toArray] at this

section
variable {w w' : World} {lo q : Nat} {T : TypeId} {ex : List Value} {RA SA TA : Option Addr} {rc sc tc : Nat} {r : Xn}

theorem Xp.nr (h : Xp w lo q T ex RA rc SA sc TA tc r) : ∀ k, (Value.slice RA r.regs.length rc).ownBlock = some k → k ≠ q := own_row_ne h.v.regs h.row h.ty

theorem Xp.ns (h : Xp w lo q T ex RA rc SA sc TA tc r) : ∀ k, (Value.slice SA r.slots.length sc).ownBlock = some k → k ≠ q := own_row_ne h.v.slots h.row h.ty

theorem Xp.nt (h : Xp w lo q T ex RA rc SA sc TA tc r) : ∀ k, (Value.slice TA r.trace.length tc).ownBlock = some k → k ≠ q := own_row_ne h.v.trace h.row h.ty

theorem Xp.cells (h : Xp w lo q T ex RA rc SA sc TA tc r) : w.cell? ⟨q, 0, none⟩ = some (.int .i64 r.st) ∧ w.cell? ⟨q, 1, none⟩ = some (.int .i64 (r.blk : Int)) ∧ w.cell? ⟨q, 2, none⟩ = some (.int .i64 (r.pos : Int)) ∧ w.cell? ⟨q, 3, none⟩ = some (.int .i64 r.val) ∧
    w.cell? ⟨q, 4, none⟩ = some (.slice RA r.regs.length rc) ∧ w.cell? ⟨q, 5, none⟩ = some (.slice SA r.slots.length sc) ∧ w.cell? ⟨q, 6, none⟩ = some (.slice TA r.trace.length tc) ∧ w.cell? ⟨q, 7, none⟩ = some (.int .i64 (r.steps : Int)) := by
  refine ⟨?_, ?_, ?_, ?_, ?_, ?_, ?_, ?_⟩
  all_goals
    rw [h.row.cell]
    simp [xcs]

theorem Xp.next (h : Xp w lo q T ex RA rc SA sc TA tc r) (hb : Below w.heap.size w w') : Xp w' lo q T ex RA rc SA sc TA tc r := ⟨h.row.below hb h.row.lt, h.v.below hb, h.lt, h.ty⟩

theorem Xp.drewN (h : Xp w lo q T ex RA rc SA sc TA tc r) (n : Nat) : Xp (w.drewN n) lo q T ex RA rc SA sc TA tc r := h.next (blw_drewN (Below.refl _ _) n)

theorem Xp.drew (h : Xp w lo q T ex RA rc SA sc TA tc r) : Xp w.drew lo q T ex RA rc SA sc TA tc r := h.drewN 1

theorem Xp.vput (h : Xp w lo q T ex RA rc SA sc TA tc r) (i : Nat) (u : Value) : XV (w.setCell ⟨q, i, none⟩ u) lo RA rc SA sc TA tc r :=
  have hm := (Mods.refl (Is q) w).put i u
  ⟨hm.ownS h.v.regs fun k hk hs => h.nr k hk hs, hm.ownS h.v.slots fun k hk hs => h.ns k hk hs, hm.ownS h.v.trace fun k hk hs => h.nt k hk hs, h.v.rs, h.v.rt, h.v.st⟩

theorem Xp.pSt (h : Xp w lo q T ex RA rc SA sc TA tc r) (s : Int) : Xp (w.setCell ⟨q, 0, none⟩ (.int .i64 s)) lo q T ex RA rc SA sc TA tc { r with st := s } := ⟨h.row.putL 0 _, { h.vput 0 (.int .i64 s) with }, h.lt, h.ty⟩

theorem Xp.pBlk (h : Xp w lo q T ex RA rc SA sc TA tc r) (k : Nat) : Xp (w.setCell ⟨q, 1, none⟩ (.int .i64 (k : Int))) lo q T ex RA rc SA sc TA tc { r with blk := k } := ⟨h.row.putL 1 _, { h.vput 1 (.int .i64 (k : Int)) with }, h.lt, h.ty⟩

theorem Xp.pPos (h : Xp w lo q T ex RA rc SA sc TA tc r) (k : Nat) : Xp (w.setCell ⟨q, 2, none⟩ (.int .i64 (k : Int))) lo q T ex RA rc SA sc TA tc { r with pos := k } := ⟨h.row.putL 2 _, { h.vput 2 (.int .i64 (k : Int)) with }, h.lt, h.ty⟩

theorem Xp.pVal (h : Xp w lo q T ex RA rc SA sc TA tc r) (v : Int) : Xp (w.setCell ⟨q, 3, none⟩ (.int .i64 v)) lo q T ex RA rc SA sc TA tc { r with val := v } := ⟨h.row.putL 3 _, { h.vput 3 (.int .i64 v) with }, h.lt, h.ty⟩

theorem Xp.pSteps (h : Xp w lo q T ex RA rc SA sc TA tc r) (k : Nat) : Xp (w.setCell ⟨q, 7, none⟩ (.int .i64 (k : Int))) lo q T ex RA rc SA sc TA tc { r with steps := k } := ⟨h.row.putL 7 _, { h.vput 7 (.int .i64 (k : Int)) with }, h.lt, h.ty⟩

/-- A register is set; a slot. -/
theorem Xp.setreg {g k : Nat} {v : Int} (h : Xp w lo q T ex (some ⟨g, 0, none⟩) rc SA sc TA tc r) (hk : k < r.regs.length) :
    Xp (w.setCell ⟨g, k, none⟩ (.int .i64 v)) lo q T ex (some ⟨g, 0, none⟩) rc SA sc TA tc { r with regs := r.regs.set k v } ∧ Below lo w (w.setCell ⟨g, k, none⟩ (.int .i64 v)) := by
  have hl : (r.regs.set k v).length = r.regs.length := by simp
  have hgq := h.nr g rfl
  have hlg := (ownS_lt h.v.regs g rfl).1
  have h1 := ownS_put h.v.regs (g := g) rfl (j := k) (by rw [ints_length]; exact hk) (.int .i64 v)
  have hm := (Mods.refl (Is g) w).put k (.int .i64 v)
  refine ⟨⟨?_, ⟨?_, hm.ownS h.v.slots fun j hj hs => h.v.rs g rfl (by unfold Is at hs; rw [hj, hs]), hm.ownS h.v.trace fun j hj hs => h.v.rt g rfl (by unfold Is at hs; rw [hj, hs]), ?_, ?_, h.v.st⟩, h.lt, h.ty⟩, (Below.refl _ _).setCell (by show lo ≤ g; exact hlg) _⟩
  · have := h.row.far (q := ⟨g, k, none⟩) (fun e => hgq e.symm) (.int .i64 v)
    unfold xcs at this ⊢
    rw [← hl] at this
    exact this
  · rw [ints_set]
    rw [← hl] at h1
    exact h1
  · intro j hj ht
    rw [hl] at hj
    exact h.v.rs j hj ht
  · intro j hj ht
    rw [hl] at hj
    exact h.v.rt j hj ht

theorem Xp.setslot {g k : Nat} {v : Int} (h : Xp w lo q T ex RA rc (some ⟨g, 0, none⟩) sc TA tc r) (hk : k < r.slots.length) :
    Xp (w.setCell ⟨g, k, none⟩ (.int .i64 v)) lo q T ex RA rc (some ⟨g, 0, none⟩) sc TA tc { r with slots := r.slots.set k v } ∧ Below lo w (w.setCell ⟨g, k, none⟩ (.int .i64 v)) := by
  have hl : (r.slots.set k v).length = r.slots.length := by simp
  have hgq := h.ns g rfl
  have hlg := (ownS_lt h.v.slots g rfl).1
  have h1 := ownS_put h.v.slots (g := g) rfl (j := k) (by rw [ints_length]; exact hk) (.int .i64 v)
  have hm := (Mods.refl (Is g) w).put k (.int .i64 v)
  refine ⟨⟨?_, ⟨hm.ownS h.v.regs fun j hj hs => h.v.rs g (by unfold Is at hs; rw [← hs]; exact hj) rfl, ?_, hm.ownS h.v.trace fun j hj hs => h.v.st g rfl (by unfold Is at hs; rw [hj, hs]), ?_, h.v.rt, ?_⟩, h.lt, h.ty⟩, (Below.refl _ _).setCell (by show lo ≤ g; exact hlg) _⟩
  · have := h.row.far (q := ⟨g, k, none⟩) (fun e => hgq e.symm) (.int .i64 v)
    unfold xcs at this ⊢
    rw [← hl] at this
    exact this
  · rw [ints_set]
    rw [← hl] at h1
    exact h1
  · intro j hj ht
    rw [hl] at ht
    exact h.v.rs j hj ht
  · intro j hj ht
    rw [hl] at hj
    exact h.v.st j hj ht

theorem XV.regc {g k : Nat} (h : XV w lo (some ⟨g, 0, none⟩) rc SA sc TA tc r) (hk : k < r.regs.length) : w.cell? ⟨g, k, none⟩ = some (.int .i64 (rg r.regs (k : Int))) := by
  obtain ⟨g', e, hc⟩ := regs_at h.regs hk
  injection e with e
  injection e with e _ _
  subst e
  exact hc

theorem XV.slotc {g k : Nat} (h : XV w lo RA rc (some ⟨g, 0, none⟩) sc TA tc r) (hk : k < r.slots.length) : w.cell? ⟨g, k, none⟩ = some (.int .i64 (rg r.slots (k : Int))) := by
  obtain ⟨g', e, hc⟩ := regs_at h.slots hk
  injection e with e
  injection e with e _ _
  subst e
  exact hc

/-- The trace with one value more. -/
theorem Xp.app {W : World} (h : Xp w lo q T ex RA rc SA sc TA tc r) (x : Int) (o : Obj) (hg : (w.alloc o).grownBy W (Value.slice TA r.trace.length tc).ownBlock) {A1 : Option Addr} {c1 : Nat}
    (ho : W.ownsRow lo 2 1 (.slice A1 (r.trace.length + 1) c1) (r.trace.length + 1) (ints (r.trace ++ [x]))) (ha : (Value.slice A1 (r.trace.length + 1) c1).ownBlock = (Value.slice TA r.trace.length tc).ownBlock ∨ (Value.slice A1 (r.trace.length + 1) c1).ownBlock = some (w.alloc o).heap.size) :
    Row W q T (xcs r RA rc SA sc TA tc ++ ex).toArray ∧ Xp (W.setCell ⟨q, 6, none⟩ (.slice A1 (r.trace.length + 1) c1)) lo q T ex RA rc SA sc A1 c1 { r with trace := r.trace ++ [x] } ∧ Below lo w (W.setCell ⟨q, 6, none⟩ (.slice A1 (r.trace.length + 1) c1)) := by
  have hql := h.row.lt
  have hlq := h.lt
  have hb : ∀ k, k < w.heap.size → (∀ j, (Value.slice TA r.trace.length tc).ownBlock = some j → ¬ k = j) → W.heap[k]? = w.heap[k]? := fun k hk hn =>
    (hg.block k (by simp; omega) fun e => hn _ e.symm rfl).trans (Below.heap_alloc w o k hk)
  have hrow : Row W q T (xcs r RA rc SA sc TA tc ++ ex).toArray := (hb q hql fun j hj e => h.nt j hj e.symm).trans h.row
  have hmd : Mods (fun k => (Value.slice TA r.trace.length tc).ownBlock = some k) w W := ⟨hg.os, hg.tape, hg.output, Nat.le_trans (by simp) hg.size, fun k hk hn => hb k hk fun j hj e => hn (e ▸ hj)⟩
  have hR : W.ownsRow lo 2 1 (.slice RA r.regs.length rc) r.regs.length (ints r.regs) := hmd.ownS h.v.regs fun k hk hs => h.v.rt k hk hs
  have hS : W.ownsRow lo 2 1 (.slice SA r.slots.length sc) r.slots.length (ints r.slots) := hmd.ownS h.v.slots fun k hk hs => h.v.st k hk hs
  have hnt := own_row_ne ho hrow h.ty
  have hm := (Mods.refl (Is q) W).put 6 (.slice A1 (r.trace.length + 1) c1)
  have hl : (r.trace ++ [x]).length = r.trace.length + 1 := by simp
  refine ⟨hrow, ⟨?_, ⟨hm.ownS hR fun k hk hs => h.nr k hk hs, hm.ownS hS fun k hk hs => h.ns k hk hs, ?_, h.v.rs, ?_, ?_⟩, h.lt, h.ty⟩, ?_⟩
  · have := hrow.putL 6 (.slice A1 (r.trace.length + 1) c1)
    rw [← hl] at this ⊢
    exact this
  · have := hm.ownS ho fun k hk hs => hnt k hk hs
    rw [← hl] at this ⊢
    exact this
  · intro k hk ht
    rw [show (Value.slice A1 (r.trace ++ [x]).length c1).ownBlock = (Value.slice A1 (r.trace.length + 1) c1).ownBlock from by rw [hl]] at ht
    rcases ha with ha | ha
    · exact h.v.rt k hk (ha ▸ ht)
    · rw [ha] at ht
      injection ht with ht
      have := (ownS_lt h.v.regs k hk).2
      simp at ht
      omega
  · intro k hk ht
    rw [show (Value.slice A1 (r.trace ++ [x]).length c1).ownBlock = (Value.slice A1 (r.trace.length + 1) c1).ownBlock from by rw [hl]] at ht
    rcases ha with ha | ha
    · exact h.v.st k hk (ha ▸ ht)
    · rw [ha] at ht
      injection ht with ht
      have := (ownS_lt h.v.slots k hk).2
      simp at ht
      omega
  · exact (hmd.below (by omega) fun k hk => (ownS_lt h.v.trace k hk).1).setCell (by show lo ≤ q; omega) _

end

end Go.Proofs.Ytcoehkphdfejjaa

/-
  The value of a location: pointers to registers and slots; the program's and the reference's Read.
-/
namespace Go.Proofs.Ytcoehkphdfejjaa
open Go.RowKit
set_option linter.unusedVariables false

/-- A world that has drawn. -/
def Drawn (a w : World) : Prop := ∃ n, a.drewN n = w

theorem Drawn.refl (a : World) : Drawn a a := ⟨0, rfl⟩

theorem Drawn.drew {a w : World} (h : Drawn a w) : Drawn a w.drew := by
  obtain ⟨n, rfl⟩ := h
  exact ⟨n + 1, by rw [← World.drewN_drewN]; rfl⟩

theorem Drawn.drewN {a w : World} (h : Drawn a w) (m : Nat) : Drawn a (w.drewN m) := by
  obtain ⟨n, rfl⟩ := h
  exact ⟨n + m, by rw [World.drewN_drewN]⟩

theorem Drawn.cell {a w : World} (h : Drawn a w) (p : Addr) : w.cell? p = a.cell? p := by
  obtain ⟨n, rfl⟩ := h
  rfl

theorem Drawn.frozen {a w : World} (h : Drawn a w) (p : Addr) : w.frozen? p = a.frozen? p := by
  obtain ⟨n, rfl⟩ := h
  rfl

theorem Drawn.below {a w : World} (h : Drawn a w) (B : Nat) : Below B a w := by
  obtain ⟨n, rfl⟩ := h
  exact blw_drewN (Below.refl _ _) n

theorem quietS {P : Program} {f : FuncId} {args : Array Value} {w : World} {n : Nat} {v : Value} (h : Calls P f args (w.drewN n) fun e w' => e = .returned v ∧ w.drewN n = w') : Calls P f args (w.drewN n) fun e w'' => e = .returned v ∧ ∃ m, w'' = w.drewN m :=
  Calls.quiet_of_same (h.mono fun _ _ ⟨a, b⟩ => ⟨a, b.symm⟩)

theorem quietN {P : Program} {f : FuncId} {args : Array Value} {w : World} {n : Nat} {v : Value} (h : Calls P f args (w.drewN n) fun e w' => e = .returned v ∧ ∃ m, (w.drewN n).drewN m = w') : Calls P f args (w.drewN n) fun e w'' => e = .returned v ∧ ∃ m, w'' = w.drewN m :=
  Calls.quiet_of (h.mono fun _ _ ⟨a, m, b⟩ => ⟨a, m, b.symm⟩)

set_option maxRecDepth 100000 in
theorem locreg_any (n : Nat) (w : World) (h : n < 1099511627776) :
    Calls Try.prog 60 #[.int .i64 n] w fun e w' => e = .returned (.int .i64 ((2 * n : Nat) : Int)) ∧ w = w' := by
  go_enter Try.func60, Try.ntmps60
  go_wp2
  go_ret
  exact ⟨ret1 (by omega), rfl⟩

theorem locidx_at (l : Int) (k : Nat) (w : World) (h0 : 0 ≤ l) (h : l ≤ 9223372036854775807) (hk : l / 2 = k) :
    Calls Try.prog 92 #[.int .i64 l] w fun e w' => e = .returned (.int .i64 (k : Int)) ∧ w = w' := by
  rw [← hk]
  exact locidx_any l w h0 h

set_option maxRecDepth 100000 in
set_option maxHeartbeats 1000000 in
theorem place_slot (l : Int) (k q g ns sc : Nat) (w : World) (h5 : w.cell? ⟨q, 5, none⟩ = some (.slice (some ⟨g, 0, none⟩) ns sc)) (hl : l = 2 * (k : Int) + 1) (hk : k < ns) (hm : ns ≤ 1000000) :
    Calls Try.prog 75 #[.pointer (some ⟨q, 0, none⟩), .int .i64 l] w fun e w' => e = .returned (.pointer (some ⟨g, k, none⟩)) ∧ ∃ n, w.drewN n = w' := by
  have C1 := Lib.hid fun W => locslot_any l true W (by omega) (by omega) (by rw [decide_eq_true]; omega)
  have C2 := Lib.hid fun W => locidx_at l k W (by omega) (by omega) (by omega)
  have hk2 : (k : Int) < ns := by omega
  clear hl
  go_enter Try.func75, Try.ntmps75
  go_wp2_with fail
  refine (C1.out _).mono ?_
  rintro e W ⟨rfl, rfl⟩
  go_upto_region 2 with fail
  go_quiet (exact quietS (C2.out _))
  go_wp2
  go_ret
  exact ⟨rfl, _, rfl⟩

set_option maxRecDepth 100000 in
set_option maxHeartbeats 1000000 in
theorem place_reg (l : Int) (k q g ns sc : Nat) (w : World) (h4 : w.cell? ⟨q, 4, none⟩ = some (.slice (some ⟨g, 0, none⟩) ns sc)) (hl : l = 2 * (k : Int)) (hk : k < ns) (hm : ns ≤ 1000000) :
    Calls Try.prog 75 #[.pointer (some ⟨q, 0, none⟩), .int .i64 l] w fun e w' => e = .returned (.pointer (some ⟨g, k, none⟩)) ∧ ∃ n, w.drewN n = w' := by
  have C1 := Lib.hid fun W => locslot_any l false W (by omega) (by omega) (by rw [decide_eq_false]; omega)
  have C2 := Lib.hid fun W => locidx_at l k W (by omega) (by omega) (by omega)
  have hk2 : (k : Int) < ns := by omega
  clear hl
  go_enter Try.func75, Try.ntmps75
  go_wp2_with fail
  refine (C1.out _).mono ?_
  rintro e W ⟨rfl, rfl⟩
  go_upto_region 3 with fail
  go_quiet (exact quietS (C2.out _))
  go_wp2
  go_ret
  exact ⟨rfl, _, rfl⟩

set_option maxRecDepth 100000 in
set_option maxHeartbeats 1000000 in
theorem register_any (k q g ns sc : Nat) (w : World) (h4 : w.cell? ⟨q, 4, none⟩ = some (.slice (some ⟨g, 0, none⟩) ns sc)) (hk : k < ns) (hm : ns ≤ 1000000) :
    Calls Try.prog 69 #[.pointer (some ⟨q, 0, none⟩), .int .i64 k] w fun e w' => e = .returned (.pointer (some ⟨g, k, none⟩)) ∧ ∃ n, w.drewN n = w' := by
  have C1 := Lib.hid fun W => locreg_any k W (by omega)
  have C2 := Lib.hid fun (W : World) h => place_reg ((2 * k : Nat) : Int) k q g ns sc W h (by omega) hk hm
  clear hk hm
  go_enter Try.func69, Try.ntmps69
  go_wp2_with fail
  refine (C1.out _).mono ?_
  rintro e W ⟨rfl, rfl⟩
  go_wp2_with fail
  refine (C2.out _ h4).mono ?_
  rintro e W ⟨rfl, n, rfl⟩
  go_wp2
  go_ret
  exact ⟨rfl, _, rfl⟩

/-- The two boxes that Read makes. -/
theorem rbox (w : World) (r : Xn) (RA : Option Addr) (rc : Nat) (SA : Option Addr) (sc : Nat) (TA : Option Addr) (tc : Nat) : Below w.heap.size w ((w.alloc (.cells #[.int .i64 r.st, .int .i64 (r.blk : Int), .int .i64 (r.pos : Int), .int .i64 r.val, .slice RA r.regs.length rc, .slice SA r.slots.length sc, .slice TA r.trace.length tc, .int .i64 (r.steps : Int)] 54)).alloc (.cells #[.int .i64 r.st, .int .i64 (r.blk : Int), .int .i64 (r.pos : Int), .int .i64 r.val, .slice RA r.regs.length rc, .slice SA r.slots.length sc, .slice TA r.trace.length tc, .int .i64 (r.steps : Int), .slice none 0 0] 84)) ∧
    Row ((w.alloc (.cells #[.int .i64 r.st, .int .i64 (r.blk : Int), .int .i64 (r.pos : Int), .int .i64 r.val, .slice RA r.regs.length rc, .slice SA r.slots.length sc, .slice TA r.trace.length tc, .int .i64 (r.steps : Int)] 54)).alloc (.cells #[.int .i64 r.st, .int .i64 (r.blk : Int), .int .i64 (r.pos : Int), .int .i64 r.val, .slice RA r.regs.length rc, .slice SA r.slots.length sc, .slice TA r.trace.length tc, .int .i64 (r.steps : Int), .slice none 0 0] 84)) (w.heap.size + 1) 84 #[.int .i64 r.st, .int .i64 (r.blk : Int), .int .i64 (r.pos : Int), .int .i64 r.val, .slice RA r.regs.length rc, .slice SA r.slots.length sc, .slice TA r.trace.length tc, .int .i64 (r.steps : Int), .slice none 0 0] :=
  ⟨((Below.refl _ w).alloc (Nat.le_refl _) _).alloc (by simp) _, Row.new' (p := w.heap.size + 1) (by simp) _ _⟩

end Go.Proofs.Ytcoehkphdfejjaa

/-
  The program's move: a location's value is stored in another one.
-/
namespace Go.Proofs.Ytcoehkphdfejjaa
open Go.RowKit
set_option linter.unusedVariables false
set_option linter.unusedSimpArgs false

abbrev exT : TypeId := 84

/-- A location of a run at a block: its address, and what is there before and behind a store. -/
structure LocAt (lo q : Nat) (T : TypeId) (ex : List Value) (RA : Option Addr) (rc : Nat) (SA : Option Addr) (sc : Nat) (TA : Option Addr) (tc : Nat) (r : Xn) (l : Int) (g k : Nat) : Prop where
  call : ∀ W : World, W.cell? ⟨q, 4, none⟩ = some (.slice RA r.regs.length rc) → W.cell? ⟨q, 5, none⟩ = some (.slice SA r.slots.length sc) → Calls Try.prog 75 #[.pointer (some ⟨q, 0, none⟩), .int .i64 l] W fun e w' => e = .returned (.pointer (some ⟨g, k, none⟩)) ∧ ∃ n, W.drewN n = w'
  low : lo ≤ g
  cell : ∀ W : World, Xp W lo q T ex RA rc SA sc TA tc r → W.cell? ⟨g, k, none⟩ = some (.int .i64 (rdX r l)) ∧ W.frozen? ⟨g, k, none⟩ = false ∧ g < W.heap.size ∧ g ≠ q
  put : ∀ (W : World) (v : Int), Xp W lo q T ex RA rc SA sc TA tc r → Xp (W.setCell ⟨g, k, none⟩ (.int .i64 v)) lo q T ex RA rc SA sc TA tc (putX r l v) ∧ Below lo W (W.setCell ⟨g, k, none⟩ (.int .i64 v))

theorem Xp.at_ {w : World} {lo q : Nat} {T : TypeId} {ex : List Value} {RA SA TA : Option Addr} {rc sc tc : Nat} {r : Xn} (h : Xp w lo q T ex RA rc SA sc TA tc r) {l : Int} (hl : LocOk r.regs.length r.slots.length l) (hr : r.regs.length ≤ 1000000) (hs : r.slots.length ≤ 1000000) :
    ∃ g k, LocAt lo q T ex RA rc SA sc TA tc r l g k := by
  obtain ⟨h0, ⟨h1, h2⟩ | ⟨h1, h2⟩⟩ := hl
  · obtain ⟨k, hk⟩ := Int.eq_ofNat_of_zero_le (show 0 ≤ l / 2 by omega)
    have hkn : k < r.slots.length := by omega
    obtain ⟨g, rfl, _⟩ := regs_at h.v.slots hkn
    refine ⟨g, k, fun W _ h5 => place_slot l k q g r.slots.length sc W h5 (by omega) hkn hs, (ownS_lt h.v.slots g rfl).1, fun W hW => ⟨?_, own_frozen hW.v.slots (g := g) rfl, (ownS_lt hW.v.slots g rfl).2, hW.ns g rfl⟩, fun W v hW => ?_⟩
    · rw [rdX, if_pos h1, hk]
      exact hW.v.slotc hkn
    · rw [putX, if_pos h1, hk]
      exact hW.setslot hkn
  · obtain ⟨k, hk⟩ := Int.eq_ofNat_of_zero_le (show 0 ≤ l / 2 by omega)
    have hkn : k < r.regs.length := by omega
    obtain ⟨g, rfl, _⟩ := regs_at h.v.regs hkn
    refine ⟨g, k, fun W h4 _ => place_reg l k q g r.regs.length rc W h4 (by omega) hkn hr, (ownS_lt h.v.regs g rfl).1, fun W hW => ⟨?_, own_frozen hW.v.regs (g := g) rfl, (ownS_lt hW.v.regs g rfl).2, hW.nr g rfl⟩, fun W v hW => ?_⟩
    · rw [rdX, if_neg (by omega), hk]
      exact hW.v.regc hkn
    · rw [putX, if_neg (by omega), hk]
      exact hW.setreg hkn

theorem cell_store {W : World} {g k g' k' : Nat} {x : Int} (h : W.cell? ⟨g', k', none⟩ = some (.int .i64 x)) : (W.setCell ⟨g, k, none⟩ (.int .i64 x)).cell? ⟨g', k', none⟩ = some (.int .i64 x) := by
  by_cases e : (⟨g, k, none⟩ : Addr) = ⟨g', k', none⟩
  · rw [← e] at h ⊢
    exact World.cell?_setCell_same _ _ _ h
  · rw [World.cell?_setCell_other _ _ _ _ e]
    exact h

set_option maxRecDepth 100000 in
set_option maxHeartbeats 4000000 in
theorem move_any (i : Mi) (r : Xn) (lo q : Nat) (ex : List Value) (RA SA TA : Option Addr) (rc sc tc : Nat) (w : World) (hI : Xp w lo q exT ex RA rc SA sc TA tc r) (hd : LocOk r.regs.length r.slots.length i.dst) (hs : LocOk r.regs.length r.slots.length i.src) (hrl : r.regs.length ≤ 1000000) (hsl : r.slots.length ≤ 1000000) :
    Calls Try.prog 67 #[.pointer (some ⟨q, 0, none⟩), .agg #[.int .i64 i.op, .int .i64 i.d, .int .i64 i.a, .int .i64 i.b, .int .i64 i.imm, .int .i64 i.dst, .int .i64 i.src]] w fun e w' => e = .returned (.bool true) ∧ Xp w' lo q exT ex RA rc SA sc TA tc (putX r i.dst (rdX r i.src)) ∧ Below lo w w' := by
  obtain ⟨gd, kd, HD⟩ := hI.at_ hd hrl hsl
  obtain ⟨gs, ks, HS⟩ := hI.at_ hs hrl hsl
  have hql : q < w.heap.size := hI.row.lt
  have hlq := hI.lt
  have hb0 := (Below.refl w.heap.size w).alloc (Nat.le_refl _) (.cells #[.int .i64 i.op, .int .i64 i.d, .int .i64 i.a, .int .i64 i.b, .int .i64 i.imm, .int .i64 i.dst, .int .i64 i.src] 69)
  have hI0 := hI.next hb0
  have hbx := Row.new w 69 #[.int .i64 i.op, .int .i64 i.d, .int .i64 i.a, .int .i64 i.b, .int .i64 i.imm, .int .i64 i.dst, .int .i64 i.src]
  have hB0 := hb0.mono (B' := lo) (by omega)
  obtain ⟨c1, c2, c3, c4⟩ := HS.cell _ hI0
  obtain ⟨d1, d2, d3, d4⟩ := HD.cell _ hI0
  obtain ⟨_, _, _, _, q4, q5, _, _⟩ := hI0.cells
  have b5 := hbx.cell 5; have b6 := hbx.cell 6
  simp only [List.getElem?_toArray, List.getElem?_cons_zero, List.getElem?_cons_succ] at b5 b6
  have hcd : w.heap.size ≠ gd ∧ w.heap.size ≠ q := ⟨fun e => by subst e; have := (HD.cell _ hI).2.2.1; omega, by omega⟩
  have CD := Lib.hid HD.call
  have CS := Lib.hid HS.call
  have HP := Lib.hid (And.intro hI0 hB0)
  have HPUT := Lib.hid HD.put
  clear hI hI0 hbx hb0 hB0 hd hs HS HD
  go_enter Try.func67, Try.ntmps67
  go_upto_region 1 with fail
  generalize w.alloc (.cells #[.int .i64 i.op, .int .i64 i.d, .int .i64 i.a, .int .i64 i.b, .int .i64 i.imm, .int .i64 i.dst, .int .i64 i.src] 69) = W0 at *
  generalize hxx : rdX r i.src = x at *
  have HXX := Lib.hid hxx
  clear hxx
  have HS0 : Hid (∀ W, Drawn W0 W → Drawn W0 W ∧ W.cell? ⟨q, 4, none⟩ = some (.slice RA r.regs.length rc) ∧ W.cell? ⟨q, 5, none⟩ = some (.slice SA r.slots.length sc) ∧ W.cell? ⟨w.heap.size, 5, none⟩ = some (.int .i64 i.dst) ∧ W.cell? ⟨w.heap.size, 6, none⟩ = some (.int .i64 i.src) ∧ W.cell? ⟨gs, ks, none⟩ = some (.int .i64 x)) := fun W h =>
    ⟨h, (h.cell _).trans q4, (h.cell _).trans q5, (h.cell _).trans b5, (h.cell _).trans b6, (h.cell _).trans c1⟩
  have HS1 : Hid (∀ W, Drawn W0 W → (W.setCell ⟨gd, kd, none⟩ (.int .i64 x)).cell? ⟨q, 4, none⟩ = some (.slice RA r.regs.length rc) ∧ (W.setCell ⟨gd, kd, none⟩ (.int .i64 x)).cell? ⟨q, 5, none⟩ = some (.slice SA r.slots.length sc) ∧ (W.setCell ⟨gd, kd, none⟩ (.int .i64 x)).cell? ⟨w.heap.size, 5, none⟩ = some (.int .i64 i.dst) ∧ (W.setCell ⟨gd, kd, none⟩ (.int .i64 x)).cell? ⟨w.heap.size, 6, none⟩ = some (.int .i64 i.src) ∧ (W.setCell ⟨gd, kd, none⟩ (.int .i64 x)).cell? ⟨gs, ks, none⟩ = some (.int .i64 x)) := fun W h =>
    ⟨(World.cell?_setCell_other _ _ _ _ (by simp [d4])).trans ((h.cell _).trans q4), (World.cell?_setCell_other _ _ _ _ (by simp [d4])).trans ((h.cell _).trans q5), (World.cell?_setCell_other _ _ _ _ (by simp [hcd.1.symm])).trans ((h.cell _).trans b5), (World.cell?_setCell_other _ _ _ _ (by simp [hcd.1.symm])).trans ((h.cell _).trans b6), cell_store ((h.cell _).trans c1)⟩
  have C1 := Lib.hid fun W (h : Drawn W0 W) => (CD.out W (HS0.out _ h).2.1 (HS0.out _ h).2.2.1).mono fun e w' ⟨he, n, hb⟩ => (⟨he, hb ▸ h.drewN n⟩ : e = _ ∧ Drawn W0 w')
  have C2 := Lib.hid fun W (h : Drawn W0 W) => (CS.out W (HS0.out _ h).2.1 (HS0.out _ h).2.2.1).mono fun e w' ⟨he, n, hb⟩ => (⟨he, hb ▸ h.drewN n⟩ : e = _ ∧ Drawn W0 w')
  have hG := Drawn.refl W0
  clear CD CS
  go_region_held3 (fun w' => w'.cell? ⟨q, 4, none⟩ = some (.slice RA r.regs.length rc) ∧ w'.cell? ⟨q, 5, none⟩ = some (.slice SA r.slots.length sc) ∧ w'.cell? ⟨w.heap.size, 5, none⟩ = some (.int .i64 i.dst) ∧ w'.cell? ⟨w.heap.size, 6, none⟩ = some (.int .i64 i.src) ∧ w'.cell? ⟨gs, ks, none⟩ = some (.int .i64 x)) (first | exact (HS0.out _ hG).2 | exact (HS0.out _ hG.drew).2 | exact (HS0.out _ (hG.drewN _)).2 | exact HS1.out _ hG | exact HS1.out _ hG.drew) (first
    | (go_at_call 75; go_must ((first | (with_reducible refine (C1.out _ (by first | exact hG | exact hG.drew | exact hG.drewN _)).mono ?_) | (with_reducible refine (C2.out _ (by first | exact hG | exact hG.drew | exact hG.drewN _)).mono ?_)); rintro e W3 ⟨rfl, hG⟩; have sd1 := (hG.cell ⟨gd, kd, none⟩).trans d1; have sd2 := (hG.frozen ⟨gd, kd, none⟩).trans d2))
    )
  have HX := Lib.hid (HPUT.out W3 x (HP.out.1.next (hG.below _)))
  have HB := Lib.hid (HP.out.2.trans (hG.below lo))
  clear HS0 HS1 C1 C2 HPUT HP
  go_wp2
  go_ret
  rw [HXX.out]
  exact ⟨rfl, HX.out.1, HB.out.trans HX.out.2⟩

end Go.Proofs.Ytcoehkphdfejjaa

/-
  The program's emit (written by wip/lab/genxemit.py).
-/
namespace Go.Proofs.Ytcoehkphdfejjaa
open Go.RowKit
set_option linter.unusedVariables false
set_option linter.unusedSimpArgs false

/-- What emit reads stays as it was: behind the new cell, the append, the store. -/
theorem Xp.emitS {W : World} {lo q g a h : Nat} {T T' : TypeId} {ex : List Value} {SA TA : Option Addr} {rc sc tc : Nat} {r : Xn} {cs : Array Value} {x : Int} (hI : Xp W lo q T ex (some ⟨g, 0, none⟩) rc SA sc TA tc r) (hx : Row W h T' cs) (hT : 2 ≠ T') (hc : cs[2]? = some (.int .i64 (a : Int))) (ha : a < r.regs.length) (hv : rg r.regs (a : Int) = x) :
    (W.cell? ⟨q, 4, none⟩ = some (.slice (some ⟨g, 0, none⟩) r.regs.length rc) ∧ W.cell? ⟨h, 2, none⟩ = some (.int .i64 (a : Int)) ∧ W.cell? ⟨g, a, none⟩ = some (.int .i64 x)) ∧ ((W.alloc (.cells #[.int .i64 x] 2)).cell? ⟨q, 4, none⟩ = some (.slice (some ⟨g, 0, none⟩) r.regs.length rc) ∧ (W.alloc (.cells #[.int .i64 x] 2)).cell? ⟨h, 2, none⟩ = some (.int .i64 (a : Int)) ∧ (W.alloc (.cells #[.int .i64 x] 2)).cell? ⟨g, a, none⟩ = some (.int .i64 x)) ∧ ∀ W1, (W.alloc (.cells #[.int .i64 x] 2)).grownBy W1 (Value.slice TA r.trace.length tc).ownBlock → (W1.cell? ⟨q, 4, none⟩ = some (.slice (some ⟨g, 0, none⟩) r.regs.length rc) ∧ W1.cell? ⟨h, 2, none⟩ = some (.int .i64 (a : Int)) ∧ W1.cell? ⟨g, a, none⟩ = some (.int .i64 x)) ∧ ∀ u, (W1.setCell ⟨q, 6, none⟩ u).cell? ⟨q, 4, none⟩ = some (.slice (some ⟨g, 0, none⟩) r.regs.length rc) ∧ (W1.setCell ⟨q, 6, none⟩ u).cell? ⟨h, 2, none⟩ = some (.int .i64 (a : Int)) ∧ (W1.setCell ⟨q, 6, none⟩ u).cell? ⟨g, a, none⟩ = some (.int .i64 x) := by
  obtain ⟨_, _, _, _, p4, _, _, _⟩ := hI.cells
  have p2 := (hx.cell 2).trans hc
  have pg := hI.v.regc ha
  rw [hv] at pg
  have hq := hI.row.lt
  have hh := hx.lt
  have hgl := (ownS_lt hI.v.regs g rfl).2
  have hgq := hI.nr g rfl
  refine ⟨⟨p4, p2, pg⟩, ⟨(World.cell?_alloc_lt W _ ⟨q, 4, none⟩ hq).trans p4, (World.cell?_alloc_lt W _ ⟨h, 2, none⟩ hh).trans p2, (World.cell?_alloc_lt W _ ⟨g, a, none⟩ hgl).trans pg⟩, fun W1 hg => ?_⟩
  have hK : ∀ p : Addr, p.block < W.heap.size → (∀ k, (Value.slice TA r.trace.length tc).ownBlock = some k → ¬ p.block = k) → W1.heap[p.block]? = W.heap[p.block]? := fun p hp hn =>
    (hg.block p.block (by simp; omega) fun e => hn _ e.symm rfl).trans (Below.heap_alloc W _ p.block hp)
  have k4 := (World.cell?_of_block (hK ⟨q, 4, none⟩ hq fun k hk e => hI.nt k hk e.symm)).trans p4
  have k2 := (World.cell?_of_block (hK ⟨h, 2, none⟩ hh fun k hk e => own_row_ne hI.v.trace hx hT k hk e.symm)).trans p2
  have kg := (World.cell?_of_block (hK ⟨g, a, none⟩ hgl fun k hk e => hI.v.rt g rfl (by rw [hk]; exact congrArg some e.symm))).trans pg
  refine ⟨⟨k4, k2, kg⟩, fun u => ⟨(World.cell?_setCell_other _ _ _ _ (by simp)).trans k4, ?_, (World.cell?_setCell_other _ _ _ _ (by simp [hgq.symm])).trans kg⟩⟩
  by_cases e : (⟨q, 6, none⟩ : Addr) = ⟨h, 2, none⟩
  · simp at e
  · exact (World.cell?_setCell_other _ _ _ _ e).trans k2

set_option maxRecDepth 100000 in
set_option maxHeartbeats 4000000 in
theorem xemit_any (i : Mi) (r : Xn) (lo q : Nat) (ex : List Value) (RA SA TA : Option Addr) (rc sc tc : Nat) (w : World) (hI : Xp w lo q exT ex RA rc SA sc TA tc r) (ha0 : 0 ≤ i.a) (ha1 : i.a < r.regs.length) (htr : r.trace.length ≤ 1000000) (hrl : r.regs.length ≤ 1000000) :
    Calls Try.prog 68 #[.pointer (some ⟨q, 0, none⟩), .agg #[.int .i64 i.op, .int .i64 i.d, .int .i64 i.a, .int .i64 i.b, .int .i64 i.imm, .int .i64 i.dst, .int .i64 i.src]] w fun e w' => e = .returned (.bool true) ∧ ∃ A1 c1, Xp w' lo q exT ex RA rc SA sc A1 c1 { r with trace := r.trace ++ [rg r.regs i.a] } ∧ Below lo w w' := by
  obtain ⟨i0, hi, hz0, hz1, hz2⟩ := info_parts infoI64
  have hql : q < w.heap.size := hI.row.lt
  have hlq := hI.lt
  have hb0 := (Below.refl w.heap.size w).alloc (Nat.le_refl _) (.cells #[.int .i64 i.op, .int .i64 i.d, .int .i64 i.a, .int .i64 i.b, .int .i64 i.imm, .int .i64 i.dst, .int .i64 i.src] 69)
  have hI0 := hI.next hb0
  have hbx := Row.new w 69 #[.int .i64 i.op, .int .i64 i.d, .int .i64 i.a, .int .i64 i.b, .int .i64 i.imm, .int .i64 i.dst, .int .i64 i.src]
  have hB0 := hb0.mono (B' := lo) (by omega)
  obtain ⟨a, ha⟩ := Int.eq_ofNat_of_zero_le ha0
  obtain ⟨op, d, ia, b, imm, dst, src⟩ := i
  dsimp only at *
  subst ha
  have han : a < r.regs.length := by omega
  obtain ⟨g, rfl, _⟩ := regs_at hI0.v.regs han
  have HK0 := Lib.hid (hI0.emitS hbx (by decide) (by kernel_rfl) han rfl).1
  have HBX := Lib.hid hbx
  have hbl : w.heap.size < (w.alloc (.cells #[.int .i64 op, .int .i64 d, .int .i64 (a : Int), .int .i64 b, .int .i64 imm, .int .i64 dst, .int .i64 src] 69)).heap.size := hbx.lt
  obtain ⟨_, _, _, _, q4, _, q6, _⟩ := hI0.cells
  have HP := Lib.hid (And.intro hI0 hB0)
  clear hI hI0 hbx hb0 hB0 ha0 ha1
  go_enter Try.func68, Try.ntmps68
  go_upto_region 1 with fail
  generalize w.alloc (.cells #[.int .i64 op, .int .i64 d, .int .i64 (a : Int), .int .i64 b, .int .i64 imm, .int .i64 dst, .int .i64 src] 69) = W0 at *
  have C1 := Lib.hid ((register_any a q g r.regs.length rc W0.drew q4 han hrl).mono fun e w' ⟨he, n, hb⟩ => (⟨he, hb ▸ (Drawn.refl W0).drew.drewN n⟩ : e = _ ∧ Drawn W0 w'))
  generalize hX : rg r.regs (a : Int) = x at *
  have HXX := Lib.hid hX
  clear hX
  refine wp_region_held_drew (S := (fun w' => w'.cell? ⟨q, 4, none⟩ = some (.slice (some ⟨g, 0, none⟩) r.regs.length rc) ∧ w'.cell? ⟨w.heap.size, 2, none⟩ = some (.int .i64 (a : Int)) ∧ w'.cell? ⟨g, a, none⟩ = some (.int .i64 x))) (by kernel_rfl) HK0.out (fun hHeld => ?_)
  refine take_at 0 5 (.pointer (some ⟨q, 0, none⟩)) rfl rfl (by kernel_rfl) (by kernel_rfl) (by kernel_rfl) (fun _ _ _ h => h) (Or.inl ⟨by rfl, ?_⟩) hHeld ?_
  · intro w9 hSw
    (try dsimp only at hSw)
    go_simp
  (try simp only [Act.put, List.setIfInBounds_toArray, List.set_cons_zero, List.set_cons_succ])
  refine take_at 1 6 (.pointer (some ⟨q, 0, none⟩)) rfl rfl (by kernel_rfl) (by kernel_rfl) (by kernel_rfl) (fun _ _ _ h => h) (Or.inl ⟨by rfl, ?_⟩) hHeld ?_
  · intro w9 hSw
    (try dsimp only at hSw)
    go_simp
  (try simp only [Act.put, List.setIfInBounds_toArray, List.set_cons_zero, List.set_cons_succ])
  refine take_at 2 7 (.pointer (some ⟨q, 0, none⟩)) rfl rfl (by kernel_rfl) (by kernel_rfl) (by kernel_rfl) (fun _ _ _ h => h) (Or.inl ⟨by rfl, ?_⟩) hHeld ?_
  · intro w9 hSw
    (try dsimp only at hSw)
    go_simp
  (try simp only [Act.put, List.setIfInBounds_toArray, List.set_cons_zero, List.set_cons_succ])
  refine take_at 3 8 (.pointer (some ⟨q, 0, none⟩)) rfl rfl (by kernel_rfl) (by kernel_rfl) (by kernel_rfl) (fun _ _ _ h => h) (Or.inl ⟨by rfl, ?_⟩) hHeld ?_
  · intro w9 hSw
    (try dsimp only at hSw)
    go_simp
  (try simp only [Act.put, List.setIfInBounds_toArray, List.set_cons_zero, List.set_cons_succ])
  refine take_at 4 9 (.pointer (some ⟨q, 6, none⟩)) rfl rfl (by kernel_rfl) (by kernel_rfl) (by kernel_rfl) (fun _ _ _ h => h) (Or.inl ⟨by rfl, ?_⟩) hHeld ?_
  · intro w9 hSw
    (try dsimp only at hSw)
    go_simp
  (try simp only [Act.put, List.setIfInBounds_toArray, List.set_cons_zero, List.set_cons_succ])
  refine take_at 6 11 (.pointer (some ⟨q, 0, none⟩)) rfl rfl (by kernel_rfl) (by kernel_rfl) (by kernel_rfl) (fun _ _ _ h => h) (Or.inl ⟨by rfl, ?_⟩) hHeld ?_
  · intro w9 hSw
    (try dsimp only at hSw)
    go_simp
  (try simp only [Act.put, List.setIfInBounds_toArray, List.set_cons_zero, List.set_cons_succ])
  refine take_at 7 12 (.pointer (some ⟨w.heap.size, 2, none⟩)) rfl rfl (by kernel_rfl) (by kernel_rfl) (by kernel_rfl) (fun _ _ _ h => h) (Or.inl ⟨by rfl, ?_⟩) hHeld ?_
  · intro w9 hSw
    (try dsimp only at hSw)
    go_simp
  (try simp only [Act.put, List.setIfInBounds_toArray, List.set_cons_zero, List.set_cons_succ])
  refine take_at 8 13 (.int .i64 a) rfl rfl (by kernel_rfl) (by kernel_rfl) (by kernel_rfl) (fun _ _ _ h => h) (Or.inl ⟨by rfl, ?_⟩) hHeld ?_
  · intro w9 hSw
    (try dsimp only at hSw)
    go_simp
  (try simp only [Act.put, List.setIfInBounds_toArray, List.set_cons_zero, List.set_cons_succ])
  refine wpAnyH_ready (rs := [5, 9]) (by kernel_rfl) (by simp) ?_
  refine AllReadyH.cons rfl (fun K hK => ?_) ?_
  · go_simp
    refine hK.out _ _ HK0.out (fun hHeld => ?_)
    clear hK K
    refine wpAnyH_ready (rs := [9]) (by kernel_rfl) (by simp) ?_
    refine AllReadyH.cons rfl (fun K hK => ?_) ?_
    · go_simp
      refine C1.out.mono ?_
      rintro e W3 ⟨rfl, hG⟩
      (try go_wp2_with fail)
      have hI3 := HP.out.1.next (hG.below _)
      have HE3 := Lib.hid (hI3.emitS (HBX.out.below (hG.below (w.heap.size + 1)) (by omega)) (by decide) (by kernel_rfl) han HXX.out)
      have HSX := Lib.hid (sees_new W3 #[.int .i64 x] 2)
      have HOA := Lib.hid (((Mods.refl No W3).alloc (.cells #[.int .i64 x] 2)).ownS hI3.v.trace fun _ _ h => h)
      have HAP := Lib.hid fun (W1 : World) (A1 : Option Addr) (c1 : Nat) hg ho ha => hI3.app x (.cells #[.int .i64 x] 2) (W := W1) (A1 := A1) (c1 := c1) hg ho ha
      obtain ⟨_, _, _, _, p4, _, p6, _⟩ := hI3.cells
      have hlo1 : lo ≤ (W3.alloc (.cells #[.int .i64 x] 2)).heap.size := by have := hI3.lt; have := hI3.row.lt; simp; omega
      have hq3 : q < W3.heap.size := hI3.row.lt
      clear hI3
      refine hK.out _ _ HE3.out.1 (fun hHeld => ?_)
      clear hK K
      refine take_at 10 15 (.pointer (some ⟨g, a, none⟩)) rfl rfl (by kernel_rfl) (by kernel_rfl) (by kernel_rfl) (fun _ _ _ h => h) (Or.inl ⟨by rfl, ?_⟩) hHeld ?_
      · intro w9 hSw
        (try dsimp only at hSw)
        go_simp
      (try simp only [Act.put, List.setIfInBounds_toArray, List.set_cons_zero, List.set_cons_succ])
      refine take_at 11 16 (.int .i64 x) rfl rfl (by kernel_rfl) (by kernel_rfl) (by kernel_rfl) (fun _ _ _ h => h) (Or.inl ⟨by rfl, ?_⟩) hHeld ?_
      · intro w9 hSw
        (try dsimp only at hSw)
        go_simp
      (try simp only [Act.put, List.setIfInBounds_toArray, List.set_cons_zero, List.set_cons_succ])
      refine wpAnyH_ready (rs := [12]) (by kernel_rfl) (by simp) ?_
      refine AllReadyH.cons rfl (fun K hK => ?_) ?_
      · go_simp
        refine hK.out _ _ HE3.out.2.1 (fun hHeld => ?_)
        clear hK K
        refine wpAnyH_ready (rs := [13]) (by kernel_rfl) (by simp) ?_
        refine AllReadyH.cons rfl (fun K hK => ?_) ?_
        · refine step_append_any _ rfl (.tmp 10) (.tmp 17) 51 rfl lo 2 i0 _ 1 8 Try.underlying51 hi hz0 hz1 hz2 rfl (by decide) (.slice TA r.trace.length tc) r.trace.length (ints r.trace) rfl HOA.out (W3.heap.size + 1) (some ⟨W3.heap.size, 0, none⟩) 1 1 (ints [x]) rfl HSX.out rfl (ints_one _) (by unfold maxLen; omega) (by omega) hlo1 ?_
          intro v1 W1 ho1 hg1 ha1
          obtain ⟨A1, c1, rfl, _, _⟩ := ownS_slice ho1
          have hgg : World.grownBy (W3.alloc (.cells #[.int .i64 x] 2)) W1 (Value.slice TA r.trace.length tc).ownBlock := ⟨hg1.os, hg1.tape, hg1.output, hg1.size, hg1.block⟩
          obtain ⟨hrow, hI2, hbl2⟩ := HAP.out W1 A1 c1 hgg (by rw [ints_append]; exact ho1) ha1
          have f6 : W1.cell? ⟨q, 6, none⟩ = some (.slice TA r.trace.length tc) := by rw [hrow.cell]; rfl
          have r6 := hrow.frozen 6
          have HI2 := Lib.hid (And.intro hI2 hbl2)
          have HKW := Lib.hid (HE3.out.2.2 W1 hgg)
          clear ho1 hg1 ha1 hgg hrow hI2 hbl2
          refine hK.out _ _ HKW.out.1 (fun hHeld => ?_)
          clear hK K
          refine take_at 14 19 (.pointer (some ⟨q, 0, none⟩)) rfl rfl (by kernel_rfl) (by kernel_rfl) (by kernel_rfl) (fun _ _ _ h => h) (Or.inl ⟨by rfl, ?_⟩) hHeld ?_
          · intro w9 hSw
            (try dsimp only at hSw)
            go_simp
          (try simp only [Act.put, List.setIfInBounds_toArray, List.set_cons_zero, List.set_cons_succ])
          refine take_at 15 20 (.pointer (some ⟨q, 0, none⟩)) rfl rfl (by kernel_rfl) (by kernel_rfl) (by kernel_rfl) (fun _ _ _ h => h) (Or.inl ⟨by rfl, ?_⟩) hHeld ?_
          · intro w9 hSw
            (try dsimp only at hSw)
            go_simp
          (try simp only [Act.put, List.setIfInBounds_toArray, List.set_cons_zero, List.set_cons_succ])
          refine take_at 16 21 (.pointer (some ⟨q, 6, none⟩)) rfl rfl (by kernel_rfl) (by kernel_rfl) (by kernel_rfl) (fun _ _ _ h => h) (Or.inl ⟨by rfl, ?_⟩) hHeld ?_
          · intro w9 hSw
            (try dsimp only at hSw)
            go_simp
          (try simp only [Act.put, List.setIfInBounds_toArray, List.set_cons_zero, List.set_cons_succ])
          refine wpAnyH_ready (rs := [17]) (by kernel_rfl) (by simp) ?_
          refine AllReadyH.cons rfl (fun K hK => ?_) ?_
          · go_simp
            refine hK.out _ _ (HKW.out.2 _) (fun hHeld => ?_)
            clear hK K
            refine wpAnyH_done (by kernel_rfl) ?_ _
            clear hHeld HOA HSX HAP HE3 HK0 f6 r6
            go_wp2
            go_ret
            rw [HXX.out]
            exact ⟨rfl, A1, c1, HI2.out.1, (HP.out.2.trans (hG.below lo)).trans HI2.out.2⟩
          exact AllReadyH.nil
        exact AllReadyH.nil
      exact AllReadyH.nil
    exact AllReadyH.nil
  refine AllReadyH.cons rfl (fun K hK => ?_) ?_
  · go_simp
    refine C1.out.mono ?_
    rintro e W3 ⟨rfl, hG⟩
    (try go_wp2_with fail)
    have hI3 := HP.out.1.next (hG.below _)
    have HE3 := Lib.hid (hI3.emitS (HBX.out.below (hG.below (w.heap.size + 1)) (by omega)) (by decide) (by kernel_rfl) han HXX.out)
    have HSX := Lib.hid (sees_new W3 #[.int .i64 x] 2)
    have HOA := Lib.hid (((Mods.refl No W3).alloc (.cells #[.int .i64 x] 2)).ownS hI3.v.trace fun _ _ h => h)
    have HAP := Lib.hid fun (W1 : World) (A1 : Option Addr) (c1 : Nat) hg ho ha => hI3.app x (.cells #[.int .i64 x] 2) (W := W1) (A1 := A1) (c1 := c1) hg ho ha
    obtain ⟨_, _, _, _, p4, _, p6, _⟩ := hI3.cells
    have hlo1 : lo ≤ (W3.alloc (.cells #[.int .i64 x] 2)).heap.size := by have := hI3.lt; have := hI3.row.lt; simp; omega
    have hq3 : q < W3.heap.size := hI3.row.lt
    clear hI3
    refine hK.out _ _ HE3.out.1 (fun hHeld => ?_)
    clear hK K
    refine take_at 10 15 (.pointer (some ⟨g, a, none⟩)) rfl rfl (by kernel_rfl) (by kernel_rfl) (by kernel_rfl) (fun _ _ _ h => h) (Or.inl ⟨by rfl, ?_⟩) hHeld ?_
    · intro w9 hSw
      (try dsimp only at hSw)
      go_simp
    (try simp only [Act.put, List.setIfInBounds_toArray, List.set_cons_zero, List.set_cons_succ])
    refine take_at 11 16 (.int .i64 x) rfl rfl (by kernel_rfl) (by kernel_rfl) (by kernel_rfl) (fun _ _ _ h => h) (Or.inl ⟨by rfl, ?_⟩) hHeld ?_
    · intro w9 hSw
      (try dsimp only at hSw)
      go_simp
    (try simp only [Act.put, List.setIfInBounds_toArray, List.set_cons_zero, List.set_cons_succ])
    refine wpAnyH_ready (rs := [5, 12]) (by kernel_rfl) (by simp) ?_
    refine AllReadyH.cons rfl (fun K hK => ?_) ?_
    · go_simp
      refine hK.out _ _ HE3.out.1 (fun hHeld => ?_)
      clear hK K
      refine wpAnyH_ready (rs := [12]) (by kernel_rfl) (by simp) ?_
      refine AllReadyH.cons rfl (fun K hK => ?_) ?_
      · go_simp
        refine hK.out _ _ HE3.out.2.1 (fun hHeld => ?_)
        clear hK K
        refine wpAnyH_ready (rs := [13]) (by kernel_rfl) (by simp) ?_
        refine AllReadyH.cons rfl (fun K hK => ?_) ?_
        · refine step_append_any _ rfl (.tmp 10) (.tmp 17) 51 rfl lo 2 i0 _ 1 8 Try.underlying51 hi hz0 hz1 hz2 rfl (by decide) (.slice TA r.trace.length tc) r.trace.length (ints r.trace) rfl HOA.out (W3.heap.size + 1) (some ⟨W3.heap.size, 0, none⟩) 1 1 (ints [x]) rfl HSX.out rfl (ints_one _) (by unfold maxLen; omega) (by omega) hlo1 ?_
          intro v1 W1 ho1 hg1 ha1
          obtain ⟨A1, c1, rfl, _, _⟩ := ownS_slice ho1
          have hgg : World.grownBy (W3.alloc (.cells #[.int .i64 x] 2)) W1 (Value.slice TA r.trace.length tc).ownBlock := ⟨hg1.os, hg1.tape, hg1.output, hg1.size, hg1.block⟩
          obtain ⟨hrow, hI2, hbl2⟩ := HAP.out W1 A1 c1 hgg (by rw [ints_append]; exact ho1) ha1
          have f6 : W1.cell? ⟨q, 6, none⟩ = some (.slice TA r.trace.length tc) := by rw [hrow.cell]; rfl
          have r6 := hrow.frozen 6
          have HI2 := Lib.hid (And.intro hI2 hbl2)
          have HKW := Lib.hid (HE3.out.2.2 W1 hgg)
          clear ho1 hg1 ha1 hgg hrow hI2 hbl2
          refine hK.out _ _ HKW.out.1 (fun hHeld => ?_)
          clear hK K
          refine take_at 14 19 (.pointer (some ⟨q, 0, none⟩)) rfl rfl (by kernel_rfl) (by kernel_rfl) (by kernel_rfl) (fun _ _ _ h => h) (Or.inl ⟨by rfl, ?_⟩) hHeld ?_
          · intro w9 hSw
            (try dsimp only at hSw)
            go_simp
          (try simp only [Act.put, List.setIfInBounds_toArray, List.set_cons_zero, List.set_cons_succ])
          refine take_at 15 20 (.pointer (some ⟨q, 0, none⟩)) rfl rfl (by kernel_rfl) (by kernel_rfl) (by kernel_rfl) (fun _ _ _ h => h) (Or.inl ⟨by rfl, ?_⟩) hHeld ?_
          · intro w9 hSw
            (try dsimp only at hSw)
            go_simp
          (try simp only [Act.put, List.setIfInBounds_toArray, List.set_cons_zero, List.set_cons_succ])
          refine take_at 16 21 (.pointer (some ⟨q, 6, none⟩)) rfl rfl (by kernel_rfl) (by kernel_rfl) (by kernel_rfl) (fun _ _ _ h => h) (Or.inl ⟨by rfl, ?_⟩) hHeld ?_
          · intro w9 hSw
            (try dsimp only at hSw)
            go_simp
          (try simp only [Act.put, List.setIfInBounds_toArray, List.set_cons_zero, List.set_cons_succ])
          refine wpAnyH_ready (rs := [17]) (by kernel_rfl) (by simp) ?_
          refine AllReadyH.cons rfl (fun K hK => ?_) ?_
          · go_simp
            refine hK.out _ _ (HKW.out.2 _) (fun hHeld => ?_)
            clear hK K
            refine wpAnyH_done (by kernel_rfl) ?_ _
            clear hHeld HOA HSX HAP HE3 HK0 f6 r6
            go_wp2
            go_ret
            rw [HXX.out]
            exact ⟨rfl, A1, c1, HI2.out.1, (HP.out.2.trans (hG.below lo)).trans HI2.out.2⟩
          exact AllReadyH.nil
        exact AllReadyH.nil
      exact AllReadyH.nil
    refine AllReadyH.cons rfl (fun K hK => ?_) ?_
    · go_simp
      refine hK.out _ _ HE3.out.2.1 (fun hHeld => ?_)
      clear hK K
      refine wpAnyH_ready (rs := [5]) (by kernel_rfl) (by simp) ?_
      refine AllReadyH.cons rfl (fun K hK => ?_) ?_
      · go_simp
        refine hK.out _ _ HE3.out.2.1 (fun hHeld => ?_)
        clear hK K
        refine wpAnyH_ready (rs := [13]) (by kernel_rfl) (by simp) ?_
        refine AllReadyH.cons rfl (fun K hK => ?_) ?_
        · refine step_append_any _ rfl (.tmp 10) (.tmp 17) 51 rfl lo 2 i0 _ 1 8 Try.underlying51 hi hz0 hz1 hz2 rfl (by decide) (.slice TA r.trace.length tc) r.trace.length (ints r.trace) rfl HOA.out (W3.heap.size + 1) (some ⟨W3.heap.size, 0, none⟩) 1 1 (ints [x]) rfl HSX.out rfl (ints_one _) (by unfold maxLen; omega) (by omega) hlo1 ?_
          intro v1 W1 ho1 hg1 ha1
          obtain ⟨A1, c1, rfl, _, _⟩ := ownS_slice ho1
          have hgg : World.grownBy (W3.alloc (.cells #[.int .i64 x] 2)) W1 (Value.slice TA r.trace.length tc).ownBlock := ⟨hg1.os, hg1.tape, hg1.output, hg1.size, hg1.block⟩
          obtain ⟨hrow, hI2, hbl2⟩ := HAP.out W1 A1 c1 hgg (by rw [ints_append]; exact ho1) ha1
          have f6 : W1.cell? ⟨q, 6, none⟩ = some (.slice TA r.trace.length tc) := by rw [hrow.cell]; rfl
          have r6 := hrow.frozen 6
          have HI2 := Lib.hid (And.intro hI2 hbl2)
          have HKW := Lib.hid (HE3.out.2.2 W1 hgg)
          clear ho1 hg1 ha1 hgg hrow hI2 hbl2
          refine hK.out _ _ HKW.out.1 (fun hHeld => ?_)
          clear hK K
          refine take_at 14 19 (.pointer (some ⟨q, 0, none⟩)) rfl rfl (by kernel_rfl) (by kernel_rfl) (by kernel_rfl) (fun _ _ _ h => h) (Or.inl ⟨by rfl, ?_⟩) hHeld ?_
          · intro w9 hSw
            (try dsimp only at hSw)
            go_simp
          (try simp only [Act.put, List.setIfInBounds_toArray, List.set_cons_zero, List.set_cons_succ])
          refine take_at 15 20 (.pointer (some ⟨q, 0, none⟩)) rfl rfl (by kernel_rfl) (by kernel_rfl) (by kernel_rfl) (fun _ _ _ h => h) (Or.inl ⟨by rfl, ?_⟩) hHeld ?_
          · intro w9 hSw
            (try dsimp only at hSw)
            go_simp
          (try simp only [Act.put, List.setIfInBounds_toArray, List.set_cons_zero, List.set_cons_succ])
          refine take_at 16 21 (.pointer (some ⟨q, 6, none⟩)) rfl rfl (by kernel_rfl) (by kernel_rfl) (by kernel_rfl) (fun _ _ _ h => h) (Or.inl ⟨by rfl, ?_⟩) hHeld ?_
          · intro w9 hSw
            (try dsimp only at hSw)
            go_simp
          (try simp only [Act.put, List.setIfInBounds_toArray, List.set_cons_zero, List.set_cons_succ])
          refine wpAnyH_ready (rs := [17]) (by kernel_rfl) (by simp) ?_
          refine AllReadyH.cons rfl (fun K hK => ?_) ?_
          · go_simp
            refine hK.out _ _ (HKW.out.2 _) (fun hHeld => ?_)
            clear hK K
            refine wpAnyH_done (by kernel_rfl) ?_ _
            clear hHeld HOA HSX HAP HE3 HK0 f6 r6
            go_wp2
            go_ret
            rw [HXX.out]
            exact ⟨rfl, A1, c1, HI2.out.1, (HP.out.2.trans (hG.below lo)).trans HI2.out.2⟩
          exact AllReadyH.nil
        exact AllReadyH.nil
      exact AllReadyH.nil
    exact AllReadyH.nil
  exact AllReadyH.nil

end Go.Proofs.Ytcoehkphdfejjaa

/-
  The program's compute and perform.
-/
namespace Go.Proofs.Ytcoehkphdfejjaa
open Go.RowKit
set_option linter.unusedVariables false
set_option linter.unusedSimpArgs false

/-- What compute and perform carry: the run and the instruction's box. -/
structure CW (w0 : World) (i : Mi) (lo q : Nat) (T : TypeId) (ex : List Value) (RA : Option Addr) (rc : Nat) (SA : Option Addr) (sc : Nat) (TA : Option Addr) (tc : Nat) (r : Xn) (W : World) : Prop where
  xp : Xp W lo q T ex RA rc SA sc TA tc r
  below : Below lo w0 W
  bx : Row W w0.heap.size 69 #[.int .i64 i.op, .int .i64 i.d, .int .i64 i.a, .int .i64 i.b, .int .i64 i.imm, .int .i64 i.dst, .int .i64 i.src]

section
variable {w0 w w' : World} {i : Mi} {lo q : Nat} {T : TypeId} {ex : List Value} {RA SA TA : Option Addr} {rc sc tc : Nat} {r : Xn}

theorem CW.next (h : CW w0 i lo q T ex RA rc SA sc TA tc r w) (hb : Below w.heap.size w w') : CW w0 i lo q T ex RA rc SA sc TA tc r w' :=
  ⟨h.xp.next hb, h.below.trans (hb.mono (by have := h.xp.row.lt; have := h.xp.lt; omega)), h.bx.below hb h.bx.lt⟩

theorem CW.drewN (h : CW w0 i lo q T ex RA rc SA sc TA tc r w) (n : Nat) : CW w0 i lo q T ex RA rc SA sc TA tc r (w.drewN n) := h.next (blw_drewN (Below.refl _ _) n)

theorem CW.drew (h : CW w0 i lo q T ex RA rc SA sc TA tc r w) : CW w0 i lo q T ex RA rc SA sc TA tc r w.drew := h.drewN 1

theorem CW.start (h : Xp w lo q T ex RA rc SA sc TA tc r) (i : Mi) : CW w i lo q T ex RA rc SA sc TA tc r (w.alloc (.cells #[.int .i64 i.op, .int .i64 i.d, .int .i64 i.a, .int .i64 i.b, .int .i64 i.imm, .int .i64 i.dst, .int .i64 i.src] 69)) :=
  have hb := (Below.refl w.heap.size w).alloc (Nat.le_refl _) (.cells #[.int .i64 i.op, .int .i64 i.d, .int .i64 i.a, .int .i64 i.b, .int .i64 i.imm, .int .i64 i.dst, .int .i64 i.src] 69)
  ⟨h.next hb, hb.mono (by have := h.row.lt; have := h.lt; omega), Row.new _ _ _⟩

end

set_option maxRecDepth 100000 in
set_option maxHeartbeats 4000000 in
theorem xcomp_any (i : Mi) (r : Xn) (lo q : Nat) (ex : List Value) (RA SA TA : Option Addr) (rc sc tc : Nat) (w : World) (hI : Xp w lo q exT ex RA rc SA sc TA tc r) (ha0 : 0 ≤ i.a) (ha1 : i.a < r.regs.length) (hd0 : 0 ≤ i.d) (hd1 : i.d < r.regs.length) (hb0 : 0 ≤ i.b) (hb1 : i.b < r.regs.length) (hw : ∀ v ∈ r.regs, InI v) (hrl : r.regs.length ≤ 1000000) :
    Calls Try.prog 66 #[.pointer (some ⟨q, 0, none⟩), .agg #[.int .i64 i.op, .int .i64 i.d, .int .i64 i.a, .int .i64 i.b, .int .i64 i.imm, .int .i64 i.dst, .int .i64 i.src]] w fun e w' => e = .returned (.bool (evo i.op (rg r.regs i.b))) ∧ Xp w' lo q exT ex RA rc SA sc TA tc (if evo i.op (rg r.regs i.b) = true then { r with regs := r.regs.set i.d.toNat (ev i.op (rg r.regs i.a) (rg r.regs i.b) i.imm) } else r) ∧ Below lo w w' := by
  have hG := CW.start hI i
  have hxa := hw _ (rg_mem ha0 ha1)
  have hxb := hw _ (rg_mem hb0 hb1)
  have hqw : q < w.heap.size := hI.row.lt
  obtain ⟨a, ha⟩ := Int.eq_ofNat_of_zero_le ha0
  obtain ⟨b, hb⟩ := Int.eq_ofNat_of_zero_le hb0
  obtain ⟨d, hd⟩ := Int.eq_ofNat_of_zero_le hd0
  obtain ⟨op, id, ia, ib, imm, dst, src⟩ := i
  dsimp only at *
  subst ha
  subst hb
  subst hd
  have han : a < r.regs.length := by omega
  have hbn : b < r.regs.length := by omega
  have hdn : d < r.regs.length := by omega
  rw [Int.toNat_natCast]
  obtain ⟨g, rfl, _⟩ := regs_at hI.v.regs han
  have HGC : Hid (∀ W, CW w ⟨op, (d : Int), (a : Int), (b : Int), imm, dst, src⟩ lo q exT ex (some ⟨g, 0, none⟩) rc SA sc TA tc r W → W.cell? ⟨w.heap.size, 0, none⟩ = some (.int .i64 op) ∧ W.cell? ⟨w.heap.size, 2, none⟩ = some (.int .i64 (a : Int)) ∧ W.cell? ⟨w.heap.size, 3, none⟩ = some (.int .i64 (b : Int)) ∧ W.cell? ⟨w.heap.size, 4, none⟩ = some (.int .i64 imm) ∧ W.cell? ⟨q, 4, none⟩ = some (.slice (some ⟨g, 0, none⟩) r.regs.length rc) ∧ W.cell? ⟨g, a, none⟩ = some (.int .i64 (rg r.regs (a : Int))) ∧ W.cell? ⟨g, b, none⟩ = some (.int .i64 (rg r.regs (b : Int)))) := fun W h =>
    ⟨h.bx.cell 0, h.bx.cell 2, h.bx.cell 3, h.bx.cell 4, h.xp.cells.2.2.2.2.1, h.xp.v.regc han, h.xp.v.regc hbn⟩
  have C1 := Lib.hid fun W (h : CW w ⟨op, (d : Int), (a : Int), (b : Int), imm, dst, src⟩ lo q exT ex (some ⟨g, 0, none⟩) rc SA sc TA tc r W) => (register_any a q g r.regs.length rc W (HGC.out _ h).2.2.2.2.1 han hrl).mono fun e w' ⟨he, n, hb⟩ => (⟨he, hb ▸ h.drewN n⟩ : e = _ ∧ CW w ⟨op, (d : Int), (a : Int), (b : Int), imm, dst, src⟩ lo q exT ex (some ⟨g, 0, none⟩) rc SA sc TA tc r w')
  have C2 := Lib.hid fun W (h : CW w ⟨op, (d : Int), (a : Int), (b : Int), imm, dst, src⟩ lo q exT ex (some ⟨g, 0, none⟩) rc SA sc TA tc r W) => (register_any b q g r.regs.length rc W (HGC.out _ h).2.2.2.2.1 hbn hrl).mono fun e w' ⟨he, n, hb⟩ => (⟨he, hb ▸ h.drewN n⟩ : e = _ ∧ CW w ⟨op, (d : Int), (a : Int), (b : Int), imm, dst, src⟩ lo q exT ex (some ⟨g, 0, none⟩) rc SA sc TA tc r w')
  have C3 := Lib.hid fun W (h : CW w ⟨op, (d : Int), (a : Int), (b : Int), imm, dst, src⟩ lo q exT ex (some ⟨g, 0, none⟩) rc SA sc TA tc r W) => (eval_any op (rg r.regs (a : Int)) (rg r.regs (b : Int)) imm W hxa hxb).mono fun e w' ⟨he, hb⟩ => (⟨he, h.next hb⟩ : e = _ ∧ CW w ⟨op, (d : Int), (a : Int), (b : Int), imm, dst, src⟩ lo q exT ex (some ⟨g, 0, none⟩) rc SA sc TA tc r w')
  have C4 := Lib.hid fun W (h : CW w ⟨op, (d : Int), (a : Int), (b : Int), imm, dst, src⟩ lo q exT ex (some ⟨g, 0, none⟩) rc SA sc TA tc r W) => (register_any d q g r.regs.length rc W (HGC.out _ h).2.2.2.2.1 hdn hrl).mono fun e w' ⟨he, n, hb⟩ => (⟨he, hb ▸ h.drewN n⟩ : e = _ ∧ CW w ⟨op, (d : Int), (a : Int), (b : Int), imm, dst, src⟩ lo q exT ex (some ⟨g, 0, none⟩) rc SA sc TA tc r w')
  have HST := Lib.hid fun W (v : Int) (h : CW w ⟨op, (d : Int), (a : Int), (b : Int), imm, dst, src⟩ lo q exT ex (some ⟨g, 0, none⟩) rc SA sc TA tc r W) => h.xp.setreg (v := v) hdn
  have HRF := Lib.hid fun W (h : CW w ⟨op, (d : Int), (a : Int), (b : Int), imm, dst, src⟩ lo q exT ex (some ⟨g, 0, none⟩) rc SA sc TA tc r W) => And.intro (h.xp.v.regc hdn) (own_frozen h.xp.v.regs (g := g) (k := d) rfl)
  clear hxa hxb ha0 ha1 hb0 hb1 hd0 hd1 hw hI
  go_enter Try.func66, Try.ntmps66
  generalize hV : rg r.regs (a : Int) = x at *
  generalize hY : rg r.regs (b : Int) = y at *
  generalize hE : ev op x y imm = v at *
  generalize hO : evo op y = ok at *
  have HV := Lib.hid (And.intro hV (And.intro hY (And.intro hE hO)))
  clear hV hY hE hO
  go_upto_region 1 with fail
  generalize w.alloc (.cells #[.int .i64 op, .int .i64 (d : Int), .int .i64 (a : Int), .int .i64 (b : Int), .int .i64 imm, .int .i64 dst, .int .i64 src] 69) = W0 at *
  obtain ⟨s1, s2, s3, s4, s5, s6, s7⟩ := HGC.out _ hG
  go_region_held3 (fun w' => w'.cell? ⟨w.heap.size, 0, none⟩ = some (.int .i64 op) ∧ w'.cell? ⟨w.heap.size, 2, none⟩ = some (.int .i64 (a : Int)) ∧ w'.cell? ⟨w.heap.size, 3, none⟩ = some (.int .i64 (b : Int)) ∧ w'.cell? ⟨w.heap.size, 4, none⟩ = some (.int .i64 imm) ∧ w'.cell? ⟨q, 4, none⟩ = some (.slice (some ⟨g, 0, none⟩) r.regs.length rc) ∧ w'.cell? ⟨g, a, none⟩ = some (.int .i64 x) ∧ w'.cell? ⟨g, b, none⟩ = some (.int .i64 y)) (first | exact HGC.out _ hG | exact HGC.out _ hG.drew | exact HGC.out _ (hG.drewN _)) (first
    | (go_at_call 69; go_must ((first | (with_reducible refine (C1.out _ (by first | exact hG | exact hG.drew | exact hG.drewN _)).mono ?_) | (with_reducible refine (C2.out _ (by first | exact hG | exact hG.drew | exact hG.drewN _)).mono ?_)); rintro e W3 ⟨rfl, hG⟩))
    | (go_at_call 64; go_must ((with_reducible refine (C3.out _ (by first | exact hG | exact hG.drew | exact hG.drewN _)).mono ?_); rintro e W3 ⟨rfl, hG⟩))
    )
  obtain ⟨hrc, hrf⟩ := HRF.out _ hG
  obtain ⟨_, _, _, _, q4, _⟩ := hG.xp.cells
  have b1 := hG.bx.cell 1
  simp only [List.getElem?_toArray, List.getElem?_cons_zero, List.getElem?_cons_succ] at b1
  have HG := Lib.hid hG
  have hgl : g < W3.heap.size := (ownS_lt hG.xp.v.regs g rfl).2
  clear HGC C1 C2 C3 HRF hG s1 s2 s3 s4 s5 s6 s7
  cases ok
  · clear C4 HST
    go_wp2
    go_ret
    exact ⟨rfl, HG.out.xp, HG.out.below⟩
  · go_wp2_with fail
    refine (C4.out _ HG.out).mono ?_
    rintro e W4 ⟨rfl, hG4⟩
    have hrc4 := hG4.xp.v.regc hdn
    have hrf4 := own_frozen hG4.xp.v.regs (g := g) (k := d) rfl
    have HX := Lib.hid (HST.out _ v hG4)
    have HB4 := Lib.hid hG4.below
    clear hG4 C4 HST HG
    go_wp2
    go_ret
    exact ⟨rfl, HX.out.1, HB4.out.trans HX.out.2⟩

end Go.Proofs.Ytcoehkphdfejjaa

/-
  The program's perform.
-/
namespace Go.Proofs.Ytcoehkphdfejjaa
open Go.RowKit
set_option linter.unusedVariables false
set_option linter.unusedSimpArgs false

section
variable {w w' : World} {lo q : Nat} {T : TypeId} {ex : List Value} {RA SA TA : Option Addr} {rc sc tc : Nat} {r : Xn}

theorem Below.put27x {B : Nat} {a W : World} (h : Below B a W) (hq : B ≤ q) (u v : Value) : Below B a ((W.setCell ⟨q, 2, none⟩ u).setCell ⟨q, 7, none⟩ v) := (h.setCell (p := ⟨q, 2, none⟩) hq u).setCell (p := ⟨q, 7, none⟩) hq v

/-- One more instruction, one more step. -/
theorem Xp.tick (h : Xp w lo q T ex RA rc SA sc TA tc r) : Xp ((w.setCell ⟨q, 2, none⟩ (.int .i64 ((r.pos + 1 : Nat) : Int))).setCell ⟨q, 7, none⟩ (.int .i64 ((r.steps + 1 : Nat) : Int))) lo q T ex RA rc SA sc TA tc { r with pos := r.pos + 1, steps := r.steps + 1 } :=
  (h.pPos (r.pos + 1)).pSteps (r.steps + 1)

end

set_option maxRecDepth 100000 in
set_option maxHeartbeats 4000000 in
theorem xperf_any (i : Mi) (r : Xn) (lo q : Nat) (ex : List Value) (RA SA TA : Option Addr) (rc sc tc : Nat) (w : World) (hI : Xp w lo q exT ex RA rc SA sc TA tc r) (hok : MiOk r.regs.length r.slots.length i) (hw : ∀ v ∈ r.regs, InI v) (hp : r.pos ≤ 1000000) (hst : r.steps ≤ 1000000) (htr : r.trace.length ≤ 1000000) (hrl : r.regs.length ≤ 1000000) (hsl : r.slots.length ≤ 1000000) :
    Calls Try.prog 55 #[.pointer (some ⟨q, 0, none⟩), .agg #[.int .i64 i.op, .int .i64 i.d, .int .i64 i.a, .int .i64 i.b, .int .i64 i.imm, .int .i64 i.dst, .int .i64 i.src]] w fun e w' => e = .returned (.tuple #[]) ∧ XpP w lo q exT ex (xperf i r) w' := by
  have hG := CW.start hI i
  have hlq := hI.lt
  rcases hok with ⟨h18, hd, hs⟩ | ⟨h17, ha0, ha1⟩ | ⟨h18, h17, _, ha0, ha1, hd0, hd1, hb0, hb1⟩
  · have C1 := Lib.hid fun W (h : CW w i lo q exT ex RA rc SA sc TA tc r W) => move_any i r lo q ex RA SA TA rc sc tc W h.xp hd hs hrl hsl
    have HX : Hid (xperf i r = { putX r i.dst (rdX r i.src) with pos := r.pos + 1, steps := r.steps + 1 }) := by rw [Hid, xperf, if_pos h18]
    have HPP : Hid ((putX r i.dst (rdX r i.src)).pos = r.pos ∧ (putX r i.dst (rdX r i.src)).steps = r.steps) := by
      rcases putX_ways r i.dst (rdX r i.src) with ⟨_, e⟩ | ⟨_, e⟩ <;> rw [e] <;> exact ⟨rfl, rfl⟩
    have hz : w.heap.size < (w.alloc (.cells #[.int .i64 i.op, .int .i64 i.d, .int .i64 i.a, .int .i64 i.b, .int .i64 i.imm, .int .i64 i.dst, .int .i64 i.src] 69)).heap.size := hG.bx.lt
    obtain ⟨op, d, ia, ib, imm, dst, src⟩ := i
    dsimp only at *
    subst h18
    have b0 := hG.bx.cell 0; have b1 := hG.bx.cell 1; have b2 := hG.bx.cell 2; have b3 := hG.bx.cell 3; have b4 := hG.bx.cell 4; have b5 := hG.bx.cell 5; have b6 := hG.bx.cell 6
    simp only [List.getElem?_toArray, List.getElem?_cons_zero, List.getElem?_cons_succ] at b0 b1 b2 b3 b4 b5 b6
    have HG := Lib.hid hG
    clear hG hI hd hs
    go_enter Try.func55, Try.ntmps55
    go_upto_region 1 with fail
    generalize w.alloc (.cells #[.int .i64 18, .int .i64 d, .int .i64 ia, .int .i64 ib, .int .i64 imm, .int .i64 dst, .int .i64 src] 69) = W0 at *
    go_wp2_with fail
    refine (C1.out _ HG.out).mono ?_
    rintro e W1 ⟨rfl, hX1, hb1⟩
    have hT := hX1.tick
    rw [HPP.out.1, HPP.out.2] at hT
    obtain ⟨_, _, f2, _, _, _, _, f7⟩ := hX1.cells
    rw [HPP.out.1] at f2
    rw [HPP.out.2] at f7
    have r2 := hX1.row.frozen 2; have r7 := hX1.row.frozen 7
    have HT := Lib.hid hT
    have HB := Lib.hid (HG.out.below.trans hb1)
    clear hT hX1 hb1 HG C1 HPP b0 b1 b2 b3 b4 b5 b6
    go_wp2
    go_end0
    rw [HX.out]
    exact ⟨rfl, _, _, _, _, _, _, HT.out, Below.put27x HB.out hlq _ _⟩
  · have C1 := Lib.hid fun W (h : CW w i lo q exT ex RA rc SA sc TA tc r W) => xemit_any i r lo q ex RA SA TA rc sc tc W h.xp ha0 ha1 htr hrl
    have HX : Hid (xperf i r = { r with trace := r.trace ++ [rg r.regs i.a], pos := r.pos + 1, steps := r.steps + 1 }) := by rw [Hid, xperf, if_neg (by omega), if_pos h17]
    have hz : w.heap.size < (w.alloc (.cells #[.int .i64 i.op, .int .i64 i.d, .int .i64 i.a, .int .i64 i.b, .int .i64 i.imm, .int .i64 i.dst, .int .i64 i.src] 69)).heap.size := hG.bx.lt
    obtain ⟨op, d, ia, ib, imm, dst, src⟩ := i
    dsimp only at *
    subst h17
    have b0 := hG.bx.cell 0; have b1 := hG.bx.cell 1; have b2 := hG.bx.cell 2; have b3 := hG.bx.cell 3; have b4 := hG.bx.cell 4; have b5 := hG.bx.cell 5; have b6 := hG.bx.cell 6
    simp only [List.getElem?_toArray, List.getElem?_cons_zero, List.getElem?_cons_succ] at b0 b1 b2 b3 b4 b5 b6
    have HG := Lib.hid hG
    clear hG hI ha0 ha1
    go_enter Try.func55, Try.ntmps55
    go_upto_region 1 with fail
    generalize w.alloc (.cells #[.int .i64 17, .int .i64 d, .int .i64 ia, .int .i64 ib, .int .i64 imm, .int .i64 dst, .int .i64 src] 69) = W0 at *
    go_wp2_with fail
    refine (C1.out _ HG.out).mono ?_
    rintro e W1 ⟨rfl, A1, c1, hX1, hb1⟩
    have hT := hX1.tick
    obtain ⟨_, _, f2, _, _, _, _, f7⟩ := hX1.cells
    have r2 := hX1.row.frozen 2; have r7 := hX1.row.frozen 7
    dsimp only at hT f2 f7
    have HT := Lib.hid hT
    have HB := Lib.hid (HG.out.below.trans hb1)
    clear hT hX1 hb1 HG C1 b0 b1 b2 b3 b4 b5 b6
    go_wp2
    go_end0
    rw [HX.out]
    exact ⟨rfl, _, _, _, _, _, _, HT.out, Below.put27x HB.out hlq _ _⟩
  · have C1 := Lib.hid fun W (h : CW w i lo q exT ex RA rc SA sc TA tc r W) => xcomp_any i r lo q ex RA SA TA rc sc tc W h.xp ha0 ha1 hd0 hd1 hb0 hb1 hw hrl
    have HX : Hid (xperf i r = if evo i.op (rg r.regs i.b) = true then { r with regs := r.regs.set i.d.toNat (ev i.op (rg r.regs i.a) (rg r.regs i.b) i.imm), pos := r.pos + 1, steps := r.steps + 1 } else { r with st := 2 }) := by rw [Hid, xperf, if_neg h18, if_neg h17]
    have hz : w.heap.size < (w.alloc (.cells #[.int .i64 i.op, .int .i64 i.d, .int .i64 i.a, .int .i64 i.b, .int .i64 i.imm, .int .i64 i.dst, .int .i64 i.src] 69)).heap.size := hG.bx.lt
    have e18 : (i.op == 18) = false := by simp [h18]
    have e17 : (i.op == 17) = false := by simp [h17]
    have b0 := hG.bx.cell 0; have b1 := hG.bx.cell 1; have b2 := hG.bx.cell 2; have b3 := hG.bx.cell 3; have b4 := hG.bx.cell 4; have b5 := hG.bx.cell 5; have b6 := hG.bx.cell 6
    simp only [List.getElem?_toArray, List.getElem?_cons_zero, List.getElem?_cons_succ] at b0 b1 b2 b3 b4 b5 b6
    have HG := Lib.hid hG
    clear hG hI ha0 ha1 hd0 hd1 hb0 hb1 h18 h17
    generalize evo i.op (rg r.regs i.b) = ok at *
    generalize ev i.op (rg r.regs i.a) (rg r.regs i.b) i.imm = v at *
    go_enter Try.func55, Try.ntmps55
    go_upto_region 1 with fail
    generalize w.alloc (.cells #[.int .i64 i.op, .int .i64 i.d, .int .i64 i.a, .int .i64 i.b, .int .i64 i.imm, .int .i64 i.dst, .int .i64 i.src] 69) = W0 at *
    go_wp2_with fail
    refine (C1.out _ HG.out).mono ?_
    rintro e W1 ⟨rfl, hX1, hb1⟩
    have HB := Lib.hid (HG.out.below.trans hb1)
    clear hb1 HG C1 b0 b1 b2 b3 b4 b5 b6
    cases ok
    · rw [if_neg (by decide)] at hX1
      have hX := HX.out
      rw [if_neg (by decide)] at hX
      have HX2 := Lib.hid hX
      have f0 := hX1.cells.1
      have r0 := hX1.row.frozen 0
      have HT := Lib.hid (hX1.pSt 2)
      clear HX hX hX1
      go_wp2
      (try simp only [Exit.inBlock, Exit.then])
      refine bodyPost_ret (v := .tuple #[]) (results_none rfl _ _ _) rfl ?_
      rw [HX2.out]
      exact ⟨rfl, _, _, _, _, _, _, HT.out, HB.out.setCell (by show lo ≤ q; omega) _⟩
    · rw [if_pos rfl] at hX1
      have hX := HX.out
      rw [if_pos rfl] at hX
      have HX2 := Lib.hid hX
      have hT := hX1.tick
      obtain ⟨_, _, f2, _, _, _, _, f7⟩ := hX1.cells
      have r2 := hX1.row.frozen 2; have r7 := hX1.row.frozen 7
      dsimp only at hT f2 f7
      have HT := Lib.hid hT
      clear HX hX hX1 hT
      go_wp2
      go_end0
      rw [HX2.out]
      exact ⟨rfl, _, _, _, _, _, _, HT.out, Below.put27x HB.out hlq _ _⟩

end Go.Proofs.Ytcoehkphdfejjaa

/-
  The program's leave.
-/
namespace Go.Proofs.Ytcoehkphdfejjaa
open Go.RowKit
set_option linter.unusedVariables false
set_option linter.unusedSimpArgs false

/-- What leave carries: the run and the terminator's box. -/
structure XT (w0 : World) (t : Tm) (lo q : Nat) (T : TypeId) (ex : List Value) (RA : Option Addr) (rc : Nat) (SA : Option Addr) (sc : Nat) (TA : Option Addr) (tc : Nat) (r : Xn) (W : World) : Prop where
  xp : Xp W lo q T ex RA rc SA sc TA tc r
  below : Below lo w0 W
  bx : Row W w0.heap.size 43 #[.int .i64 t.kind, .int .i64 t.a, .int .i64 t.to, .int .i64 t.el]

set_option maxRecDepth 100000 in
set_option maxHeartbeats 4000000 in
theorem xleave_any (t : Tm) (r : Xn) (nb lo q : Nat) (ex : List Value) (RA SA TA : Option Addr) (rc sc tc : Nat) (w : World) (hI : Xp w lo q exT ex RA rc SA sc TA tc r) (hok : TmOk r.regs.length nb t) (hst : r.steps ≤ 1000000) (hrl : r.regs.length ≤ 1000000) :
    Calls Try.prog 56 #[.pointer (some ⟨q, 0, none⟩), .agg #[.int .i64 t.kind, .int .i64 t.a, .int .i64 t.to, .int .i64 t.el]] w fun e w' => e = .returned (.tuple #[]) ∧ XpP w lo q exT ex (xleav t r) w' := by
  have hbl0 := (Below.refl w.heap.size w).alloc (Nat.le_refl _) (.cells #[.int .i64 t.kind, .int .i64 t.a, .int .i64 t.to, .int .i64 t.el] 43)
  have hqw : q < w.heap.size := hI.row.lt
  have hlq := hI.lt
  have hG : XT w t lo q exT ex RA rc SA sc TA tc r (w.alloc (.cells #[.int .i64 t.kind, .int .i64 t.a, .int .i64 t.to, .int .i64 t.el] 43)) := ⟨hI.next hbl0, hbl0.mono (by omega), Row.new _ _ _⟩
  obtain ⟨kind, ta, tt, el⟩ := t
  dsimp only at *
  clear hI hbl0
  rcases hok with ⟨hk, ht0, ht1⟩ | ⟨hk, ha0, ha1, ht0, ht1, he0, he1⟩ | ⟨hk, ha0, ha1⟩
  · dsimp only at hk ht0 ht1
    subst hk
    obtain ⟨tn, rfl⟩ := Int.eq_ofNat_of_zero_le ht0
    have HX : Hid (xleav ⟨1, ta, (tn : Int), el⟩ r = { r with blk := tn, pos := 0, steps := r.steps + 1 }) := by
      rw [Hid, xleav, if_neg (show ¬ (1 : Int) = 3 by decide)]
      simp
    clear ht0
    go_enter Try.func56, Try.ntmps56
    go_upto_region 1 with fail
    generalize w.alloc (.cells #[.int .i64 1, .int .i64 ta, .int .i64 (tn : Int), .int .i64 el] 43) = W0 at *
    have f7 := hG.xp.cells.2.2.2.2.2.2.2; have b0 := hG.bx.cell 0; have r7 := hG.xp.row.frozen 7
    simp only [List.getElem?_toArray, List.getElem?_cons_zero, List.getElem?_cons_succ] at b0
    have hG1 := hG.xp.pSteps (r.steps + 1)
    have hB1 := blwq hG.below hlq 7 (.int .i64 ((r.steps + 1 : Nat) : Int))
    have hX1 := hG.bx.far (q := ⟨q, 7, none⟩) (by show w.heap.size ≠ q; omega) (.int .i64 ((r.steps + 1 : Nat) : Int))
    have HG0 := Lib.hid (show XT w ⟨1, ta, (tn : Int), el⟩ lo q exT ex RA rc SA sc TA tc { r with steps := r.steps + 1 } (W0.setCell ⟨q, 7, none⟩ (.int .i64 ((r.steps : Int) + 1))) from ⟨hG1, hB1, hX1⟩)
    clear hG hG1 hB1 hX1
    go_upto_region 3 with fail
    clear f7 r7 b0
    generalize W0.setCell ⟨q, 7, none⟩ (.int .i64 ((r.steps : Int) + 1)) = W1 at *
    obtain ⟨f0, f1, f2, f3, f4, _, _, _⟩ := HG0.out.xp.cells
    have r0 := HG0.out.xp.row.frozen 0; have r1 := HG0.out.xp.row.frozen 1; have r2 := HG0.out.xp.row.frozen 2; have r3 := HG0.out.xp.row.frozen 3
    have b0 := HG0.out.bx.cell 0; have b1 := HG0.out.bx.cell 1; have b2 := HG0.out.bx.cell 2; have b3 := HG0.out.bx.cell 3
    simp only [List.getElem?_toArray, List.getElem?_cons_zero, List.getElem?_cons_succ] at b0 b1 b2 b3
    dsimp only at f0 f1 f2 f3 f4
    have hq1 : q < W1.heap.size := HG0.out.xp.row.lt
    have hne : ¬ w.heap.size = q := by omega
    go_wp2
    go_end0
    rw [HX.out]
    exact ⟨rfl, _, _, _, _, _, _, (HG0.out.xp.pBlk tn).pPos 0, blwq (blwq HG0.out.below hlq 1 _) hlq 2 _⟩
  · dsimp only at hk ha0 ha1 ht0 ht1 he0 he1
    subst hk
    obtain ⟨a, rfl⟩ := Int.eq_ofNat_of_zero_le ha0
    obtain ⟨tn, rfl⟩ := Int.eq_ofNat_of_zero_le ht0
    obtain ⟨en, rfl⟩ := Int.eq_ofNat_of_zero_le he0
    have han : a < r.regs.length := by omega
    have HX : Hid (xleav ⟨2, (a : Int), (tn : Int), (en : Int)⟩ r = { r with blk := if rg r.regs (a : Int) = 0 then en else tn, pos := 0, steps := r.steps + 1 }) := by
      rw [Hid, xleav, if_neg (show ¬ (2 : Int) = 3 by decide)]
      simp
    obtain ⟨g, rfl, _⟩ := regs_at hG.xp.v.regs han
    have HRC := Lib.hid fun W (h : Xp W lo q exT ex (some ⟨g, 0, none⟩) rc SA sc TA tc { r with steps := r.steps + 1 }) => h.v.regc han
    dsimp only at HRC
    have C1 := Lib.hid fun W h => register_any a q g r.regs.length rc W h han hrl
    generalize rg r.regs (a : Int) = x at *
    clear ht0 ht1 ha0 ha1 he0 he1
    go_enter Try.func56, Try.ntmps56
    go_upto_region 1 with fail
    generalize w.alloc (.cells #[.int .i64 2, .int .i64 (a : Int), .int .i64 (tn : Int), .int .i64 (en : Int)] 43) = W0 at *
    have hgw : g < W0.heap.size := (ownS_lt hG.xp.v.regs g rfl).2
    have f7 := hG.xp.cells.2.2.2.2.2.2.2; have b0 := hG.bx.cell 0; have r7 := hG.xp.row.frozen 7
    simp only [List.getElem?_toArray, List.getElem?_cons_zero, List.getElem?_cons_succ] at b0
    have hG1 := hG.xp.pSteps (r.steps + 1)
    have hB1 := blwq hG.below hlq 7 (.int .i64 ((r.steps + 1 : Nat) : Int))
    have hX1 := hG.bx.far (q := ⟨q, 7, none⟩) (by show w.heap.size ≠ q; omega) (.int .i64 ((r.steps + 1 : Nat) : Int))
    have HG0 := Lib.hid (show XT w ⟨2, (a : Int), (tn : Int), (en : Int)⟩ lo q exT ex (some ⟨g, 0, none⟩) rc SA sc TA tc { r with steps := r.steps + 1 } (W0.setCell ⟨q, 7, none⟩ (.int .i64 ((r.steps : Int) + 1))) from ⟨hG1, hB1, hX1⟩)
    clear hG hG1 hB1 hX1
    go_upto_region 3 with fail
    clear f7 r7 b0
    generalize W0.setCell ⟨q, 7, none⟩ (.int .i64 ((r.steps : Int) + 1)) = W1 at *
    obtain ⟨f0, f1, f2, f3, f4, _, _, _⟩ := HG0.out.xp.cells
    have r0 := HG0.out.xp.row.frozen 0; have r1 := HG0.out.xp.row.frozen 1; have r2 := HG0.out.xp.row.frozen 2; have r3 := HG0.out.xp.row.frozen 3
    have b0 := HG0.out.bx.cell 0; have b1 := HG0.out.bx.cell 1; have b2 := HG0.out.bx.cell 2; have b3 := HG0.out.bx.cell 3
    simp only [List.getElem?_toArray, List.getElem?_cons_zero, List.getElem?_cons_succ] at b0 b1 b2 b3
    dsimp only at f0 f1 f2 f3 f4
    have hq1 : q < W1.heap.size := HG0.out.xp.row.lt
    have hne : ¬ w.heap.size = q := by omega
    have hgc := HRC.out _ HG0.out.xp
    clear HRC
    go_wp2_with fail
    refine (C1.out _ f4).mono ?_
    rintro e W2 ⟨rfl, n, rfl⟩
    by_cases hx : x = 0
    · subst hx
      rw [Hid, if_pos rfl] at HX
      have HX3 := Lib.hid HX
      clear HX C1
      go_wp2
      go_end0
      rw [HX3.out]
      exact ⟨rfl, _, _, _, _, _, _, ((HG0.out.xp.drewN n).pBlk en).pPos 0, blwq (blwq (blw_drewN HG0.out.below n) hlq 1 _) hlq 2 _⟩
    · have hx0 : (x == 0) = false := by simp [hx]
      rw [Hid, if_neg hx] at HX
      have HX3 := Lib.hid HX
      clear HX C1 hx
      go_wp2
      go_end0
      rw [HX3.out]
      exact ⟨rfl, _, _, _, _, _, _, ((HG0.out.xp.drewN n).pBlk tn).pPos 0, blwq (blwq (blw_drewN HG0.out.below n) hlq 1 _) hlq 2 _⟩
  · dsimp only at hk ha0 ha1
    subst hk
    obtain ⟨a, rfl⟩ := Int.eq_ofNat_of_zero_le ha0
    have han : a < r.regs.length := by omega
    have HX : Hid (xleav ⟨3, (a : Int), tt, el⟩ r = { r with st := 1, val := rg r.regs (a : Int), steps := r.steps + 1 }) := by
      rw [Hid, xleav, if_pos rfl]
    obtain ⟨g, rfl, _⟩ := regs_at hG.xp.v.regs han
    have HRC := Lib.hid fun W (h : Xp W lo q exT ex (some ⟨g, 0, none⟩) rc SA sc TA tc { r with steps := r.steps + 1 }) => h.v.regc han
    dsimp only at HRC
    have C1 := Lib.hid fun W h => register_any a q g r.regs.length rc W h han hrl
    generalize rg r.regs (a : Int) = x at *
    clear ha0 ha1
    go_enter Try.func56, Try.ntmps56
    go_upto_region 1 with fail
    generalize w.alloc (.cells #[.int .i64 3, .int .i64 (a : Int), .int .i64 tt, .int .i64 el] 43) = W0 at *
    have hgw : g < W0.heap.size := (ownS_lt hG.xp.v.regs g rfl).2
    have f7 := hG.xp.cells.2.2.2.2.2.2.2; have b0 := hG.bx.cell 0; have r7 := hG.xp.row.frozen 7
    simp only [List.getElem?_toArray, List.getElem?_cons_zero, List.getElem?_cons_succ] at b0
    have hG1 := hG.xp.pSteps (r.steps + 1)
    have hB1 := blwq hG.below hlq 7 (.int .i64 ((r.steps + 1 : Nat) : Int))
    have hX1 := hG.bx.far (q := ⟨q, 7, none⟩) (by show w.heap.size ≠ q; omega) (.int .i64 ((r.steps + 1 : Nat) : Int))
    have HG0 := Lib.hid (show XT w ⟨3, (a : Int), tt, el⟩ lo q exT ex (some ⟨g, 0, none⟩) rc SA sc TA tc { r with steps := r.steps + 1 } (W0.setCell ⟨q, 7, none⟩ (.int .i64 ((r.steps : Int) + 1))) from ⟨hG1, hB1, hX1⟩)
    clear hG hG1 hB1 hX1
    go_upto_region 3 with fail
    clear f7 r7 b0
    generalize W0.setCell ⟨q, 7, none⟩ (.int .i64 ((r.steps : Int) + 1)) = W1 at *
    obtain ⟨f0, f1, f2, f3, f4, _, _, _⟩ := HG0.out.xp.cells
    have r0 := HG0.out.xp.row.frozen 0; have r1 := HG0.out.xp.row.frozen 1; have r2 := HG0.out.xp.row.frozen 2; have r3 := HG0.out.xp.row.frozen 3
    have b0 := HG0.out.bx.cell 0; have b1 := HG0.out.bx.cell 1; have b2 := HG0.out.bx.cell 2; have b3 := HG0.out.bx.cell 3
    simp only [List.getElem?_toArray, List.getElem?_cons_zero, List.getElem?_cons_succ] at b0 b1 b2 b3
    dsimp only at f0 f1 f2 f3 f4
    have hq1 : q < W1.heap.size := HG0.out.xp.row.lt
    have hne : ¬ w.heap.size = q := by omega
    have hgc := HRC.out _ HG0.out.xp
    clear HRC
    go_wp2_with fail
    refine (C1.out _ f4).mono ?_
    rintro e W2 ⟨rfl, n, rfl⟩
    clear C1
    go_wp2
    go_end0
    rw [HX.out]
    exact ⟨rfl, _, _, _, _, _, _, ((HG0.out.xp.drewN n).pSt 1).pVal x, blwq (blwq (blw_drewN HG0.out.below n) hlq 0 _) hlq 3 _⟩

end Go.Proofs.Ytcoehkphdfejjaa

/-
  The program's step.
-/
namespace Go.Proofs.Ytcoehkphdfejjaa
open Go.RowKit
set_option linter.unusedVariables false

theorem Xp.cell8 {w : World} {lo q : Nat} {T : TypeId} {u : Value} {RA SA TA : Option Addr} {rc sc tc : Nat} {r : Xn} (h : Xp w lo q T [u] RA rc SA sc TA tc r) : w.cell? ⟨q, 8, none⟩ = some u := by
  rw [h.row.cell]
  rfl

set_option maxRecDepth 100000 in
set_option maxHeartbeats 4000000 in
theorem xstep_any (bs : List MBlk) (r : Xn) (B lo q : Nat) (RA SA TA BA : Option Addr) (rc sc tc bc : Nat) (w : World) (hI : Xp w lo q exT [.slice BA bs.length bc] RA rc SA sc TA tc r) (hs : MBlksAt w B BA bs) (hB : B ≤ lo) (hF : OkM r.regs.length r.slots.length bs) (hG : GoodX r.regs.length r.slots.length bs r) (h0 : r.st = 0) (hst : r.steps ≤ 1000000) (hrl : r.regs.length ≤ 1000000) (hsl : r.slots.length ≤ 1000000) (hn : mcodeN bs ≤ 1000000) (hm : bs.length ≤ 1000) :
    Calls Try.prog 40 #[.pointer (some ⟨q, 0, none⟩)] w fun e w' => e = .returned (.tuple #[]) ∧ XpP w lo q exT [.slice BA bs.length bc] (stepX bs r) w' := by
  have hqw : q < w.heap.size := hI.row.lt
  have hlq := hI.lt
  have htr : r.trace.length ≤ 1000000 := Nat.le_trans hG.tr hst
  obtain ⟨b, o, rfl, hb, hat⟩ := hs.at_ hG.blk
  obtain ⟨A1, c1, hc0, hl1, hl2, hin⟩ := hat.code
  have hcl := mcodeN_mem bs r.blk hG.blk
  have hgb := hG.blk
  have hpl : r.pos ≤ bs[r.blk].code.length := by have := hG.pos; rwa [mblkAt_lt hG.blk] at this
  have hbk : (r.blk : Int) < bs.length := by have := hG.blk; omega
  obtain ⟨_, f1, f2, _, _, _, _, _⟩ := hI.cells
  have f8 := hI.cell8
  have HI := Lib.hid hI
  have hxy : mblkAt bs r.blk = bs[r.blk] := mblkAt_lt hG.blk
  have hbq : ¬ b = q := by omega
  by_cases hlt : r.pos < bs[r.blk].code.length
  · have HX : Hid (stepX bs r = xperf (bs[r.blk].code[r.pos]) r) := by
      have hlt' : r.pos < (mblkAt bs r.blk).code.length := by rw [hxy]; exact hlt
      rw [Hid, stepX, if_pos h0, dif_pos hlt']
      congr 1
      simp only [hxy]
    have hio := hF.ins _ (List.getElem_mem hG.blk) _ (List.getElem_mem hlt)
    obtain ⟨b1, o1, rfl, hb1, hi⟩ := hin.at_ hlt
    have C1 := Lib.hid fun (W : World) (h : Xp W lo q exT [.slice (some ⟨b, o, none⟩) bs.length bc] RA rc SA sc TA tc r) => xperf_any (bs[r.blk].code[r.pos]) r lo q [.slice (some ⟨b, o, none⟩) bs.length bc] RA SA TA rc sc tc W h hio hG.wfr (by omega) hst htr hrl hsl
    have e0 := hi.c0; have e1 := hi.c1; have e2 := hi.c2; have e3 := hi.c3; have e4 := hi.c4; have e5 := hi.c5; have e6 := hi.c6
    have hlt2 : (r.pos : Int) < bs[r.blk].code.length := by omega
    clear hat hs hI hF hi hin hl1 hl2 hpl hxy hio
    generalize bs[r.blk].code[r.pos] = x at *
    generalize bs[r.blk] = y at *
    generalize hN : bs.length = nb at *
    generalize r.blk = kb at *
    generalize r.pos = kp at *
    go_enter Try.func40, Try.ntmps40
    go_wp2
    go_quiet (fail)
    revert nq
    intro n1
    go_wp2
    go_quiet (fail)
    go_upto_region 2 with fail
    have HI5 := Lib.hid ((HI.out.drewN n1).drewN nq)
    have HB5 := Lib.hid (blw_drewN (blw_drewN (Below.refl lo w) n1) nq)
    have HC := Lib.hid (show ((w.drewN n1).drewN nq).cell? ⟨q, 2, none⟩ = some (.int .i64 (kp : Int)) ∧ ((w.drewN n1).drewN nq).cell? ⟨b, o + kb * 5, none⟩ = some (.slice (some ⟨b1, o1, none⟩) y.code.length c1) ∧ ((w.drewN n1).drewN nq).cell? ⟨b1, o1 + kp * 7, none⟩ = some (.int .i64 x.op) ∧ ((w.drewN n1).drewN nq).cell? ⟨b1, o1 + kp * 7 + 1, none⟩ = some (.int .i64 x.d) ∧ ((w.drewN n1).drewN nq).cell? ⟨b1, o1 + kp * 7 + 2, none⟩ = some (.int .i64 x.a) ∧ ((w.drewN n1).drewN nq).cell? ⟨b1, o1 + kp * 7 + 3, none⟩ = some (.int .i64 x.b) ∧ ((w.drewN n1).drewN nq).cell? ⟨b1, o1 + kp * 7 + 4, none⟩ = some (.int .i64 x.imm) ∧ ((w.drewN n1).drewN nq).cell? ⟨b1, o1 + kp * 7 + 5, none⟩ = some (.int .i64 x.dst) ∧ ((w.drewN n1).drewN nq).cell? ⟨b1, o1 + kp * 7 + 6, none⟩ = some (.int .i64 x.src) from ⟨f2, hc0, e0, e1, e2, e3, e4, e5, e6⟩)
    clear f1 f2 f8 hc0 e0 e1 e2 e3 e4 e5 e6 HI
    generalize (w.drewN n1).drewN nq = W5 at *
    obtain ⟨f2, hc0, e0, e1, e2, e3, e4, e5, e6⟩ := HC.out
    clear HC
    go_still_tail 12, (by kernel_rfl)
    change wpList _ _ _ _ _ W5.drew
    go_wp2_with fail
    refine (C1.out _ HI5.out.drew).mono ?_
    rintro e W6 ⟨rfl, hI6⟩
    have HI6 := Lib.hid hI6
    clear hI6
    go_wp2
    go_end0
    rw [HX.out]
    obtain ⟨RB, rd, SB, sd, TB, td, h1, h2⟩ := HI6.out
    exact ⟨rfl, RB, rd, SB, sd, TB, td, h1, HB5.out.trans (below_un h2 (Nat.le_refl _))⟩
  · have HX : Hid (stepX bs r = xleav (bs[r.blk].term) r) := by
      have hlt' : ¬ r.pos < (mblkAt bs r.blk).code.length := by rw [hxy]; exact hlt
      rw [Hid, stepX, if_pos h0, dif_neg hlt', hxy]
    have hto := hF.tm _ (List.getElem_mem hG.blk)
    have C1 := Lib.hid fun (W : World) (h : Xp W lo q exT [.slice (some ⟨b, o, none⟩) bs.length bc] RA rc SA sc TA tc r) => xleave_any bs[r.blk].term r bs.length lo q [.slice (some ⟨b, o, none⟩) bs.length bc] RA SA TA rc sc tc W h hto hst hrl
    have t0 := hat.t0; have t1 := hat.t1; have t2 := hat.t2; have t3 := hat.t3
    have hlt2 : (bs[r.blk].code.length : Int) ≤ r.pos := by omega
    clear hat hs hI hF hin hl1 hl2 hpl hxy hto
    generalize bs[r.blk] = y at *
    generalize hN : bs.length = nb at *
    generalize r.blk = kb at *
    generalize r.pos = kp at *
    go_enter Try.func40, Try.ntmps40
    go_wp2
    go_quiet (fail)
    revert nq
    intro n1
    go_wp2
    go_quiet (fail)
    go_wp2_with fail
    refine (C1.out _ (HI.out.drewN (n1 + nq))).mono ?_
    rintro e W6 ⟨rfl, hI6⟩
    have HI6 := Lib.hid hI6
    clear hI6
    go_wp2
    go_end0
    rw [HX.out]
    obtain ⟨RB, rd, SB, sd, TB, td, h1, h2⟩ := HI6.out
    exact ⟨rfl, RB, rd, SB, sd, TB, td, h1, below_unN h2 (Nat.le_refl _)⟩

end Go.Proofs.Ytcoehkphdfejjaa

/-
  The program's Start.
-/
namespace Go.Proofs.Ytcoehkphdfejjaa
open Go.RowKit
set_option linter.unusedVariables false

abbrev zrx : Xn := ⟨0, 0, 0, 0, [], [], [], 0⟩

set_option maxRecDepth 100000 in
set_option maxHeartbeats 2000000 in
theorem xstart_bad (na : Nat) (regs slots : Int) (FA AA : Option Addr) (bl bc ac : Nat) (fa : Int) (w : World) (h : ¬ (na : Int) = fa) (hm : na ≤ maxLen) :
    Calls Try.prog 39 #[.agg #[.int .i64 fa, .int .i64 regs, .int .i64 slots, .slice FA bl bc], .slice AA na ac] w (XQ w zrx 32) := by
  have e1 : ((na : Int) != fa) = true := by simp [h]
  unfold maxLen at hm
  have HB := Lib.hid (((Below.refl w.heap.size w).alloc (Nat.le_refl _) (.cells #[.int .i64 fa, .int .i64 regs, .int .i64 slots, .slice FA bl bc] 29)).alloc (by simp) (.cells #[.int .i64 0, .int .i64 0, .int .i64 0, .int .i64 0, .slice none 0 0, .slice none 0 0, .slice none 0 0, .int .i64 0] 54))
  clear h
  go_enter Try.func39, Try.ntmps39
  go_wp2
  (try simp only [Exit.inBlock, Exit.then])
  refine bodyPost_ret (v := .tuple #[.agg #[.int .i64 0, .int .i64 0, .int .i64 0, .int .i64 0, .slice none 0 0, .slice none 0 0, .slice none 0 0, .int .i64 0], .int .i64 32]) ?_ rfl ⟨none, 0, none, 0, none, 0, rfl, XV.zero _ _, HB.out⟩
  rw [results_cell_tmp rfl]
  go_simp

theorem reps_ints (n : Nat) : List.replicate n (Value.int .i64 0) = ints (List.replicate n 0) := by simp [ints]

/-- A new row of zeros is owned. -/
theorem own_made (W : World) (n : Nat) (hn : n ≤ 1000) : (W.alloc (.cells (madeCells #[.int .i64 0] n) 2)).ownsRow W.heap.size 2 1 (.slice (some ⟨W.heap.size, 0, none⟩) n n) n (ints (List.replicate n 0)) := by
  have hmade : (W.alloc (.cells (madeCells #[.int .i64 0] n) 2)).heap[W.heap.size]? = some (.cells (ints (List.replicate n 0)).toArray 2 (0, 0)) := by
    rw [← reps_ints, ← toList_madeCells_one, Array.toArray_toList]
    exact heap_alloc_new W _
  exact ⟨by simp [ints_length], .inr ⟨W.heap.size, n, (ints (List.replicate n 0)).toArray, rfl, Nat.le_refl _, hmade, Nat.le_refl _, by unfold maxLen; omega, by simp [ints_length], by rw [Nat.mul_one]; simp [List.take_of_length_le, ints_length]⟩⟩

set_option maxRecDepth 100000 in
set_option maxHeartbeats 2000000 in
theorem xstart_any (args : List Int) (n m : Nat) (B : Nat) (FA AA : Option Addr) (bl bc ac : Nat) (w : World) (hs : Sees w B AA (ints args)) (hB : B ≤ w.heap.size) (hn : n ≤ 1000) (hm : m ≤ 1000) (hl : args.length ≤ m) :
    Calls Try.prog 39 #[.agg #[.int .i64 args.length, .int .i64 n, .int .i64 m, .slice FA bl bc], .slice AA args.length ac] w (XQ w (xn0 n m args) 0) := by
  have hmk := fun w => run_make_row' (P := Try.prog) 51 2 (.int .i64 0) 8 Try.underlying51 infoI64 rfl .i64 .i64 m (by omega) (by omega) w
  have hmk2 := fun w => run_make_row' (P := Try.prog) 51 2 (.int .i64 0) 8 Try.underlying51 infoI64 rfl .i64 .i64 n (by omega) (by omega) w
  have e1 : ((args.length : Int) != (args.length : Int)) = false := by simp
  have hbl0 : Below w.heap.size w ((w.alloc (.cells #[.int .i64 args.length, .int .i64 n, .int .i64 m, .slice FA bl bc] 29)).alloc (.cells #[.int .i64 0, .int .i64 0, .int .i64 0, .int .i64 0, .slice none 0 0, .slice none 0 0, .slice none 0 0, .int .i64 0] 54)) := ((Below.refl _ w).alloc (Nat.le_refl _) _).alloc (by simp) _
  have hbox := (Row.new w 29 #[.int .i64 args.length, .int .i64 n, .int .i64 m, .slice FA bl bc]).alloc (.cells #[.int .i64 0, .int .i64 0, .int .i64 0, .int .i64 0, .slice none 0 0, .slice none 0 0, .slice none 0 0, .int .i64 0] 54)
  have hres := Row.new' (W := w.alloc (.cells #[.int .i64 args.length, .int .i64 n, .int .i64 m, .slice FA bl bc] 29)) (p := w.heap.size + 1) (by simp) 54 #[.int .i64 0, .int .i64 0, .int .i64 0, .int .i64 0, .slice none 0 0, .slice none 0 0, .slice none 0 0, .int .i64 0]
  have hs1 := ((hs.more hB).below hbl0)
  clear hs
  go_enter Try.func39, Try.ntmps39
  go_upto_region 1 with fail
  generalize ((w.alloc (.cells #[.int .i64 args.length, .int .i64 n, .int .i64 m, .slice FA bl bc] 29)).alloc (.cells #[.int .i64 0, .int .i64 0, .int .i64 0, .int .i64 0, .slice none 0 0, .slice none 0 0, .slice none 0 0, .int .i64 0] 54)) = W0 at *
  have d0 := hbox.cell 0; have d2 := hbox.cell 2
  simp only [List.getElem?_toArray, List.getElem?_cons_zero, List.getElem?_cons_succ] at d0 d2
  go_upto_region 4 with fail
  have hmade : (W0.alloc (.cells (madeCells #[.int .i64 0] m) 2)).heap[W0.heap.size]? = some (.cells (List.replicate m (Value.int .i64 0)).toArray 2 (0, 0)) := by
    rw [← toList_madeCells_one, Array.toArray_toList]
    exact heap_alloc_new W0 _
  have hb01 : Below W0.heap.size W0 (W0.alloc (.cells (madeCells #[.int .i64 0] m) 2)) := (Below.refl _ _).alloc (Nat.le_refl _) _
  have hlo : w.heap.size + 1 + 1 ≤ W0.heap.size := hres.lt
  have HB0 := Lib.hid hbl0
  have HX := Lib.hid hmade
  have HB1 := Lib.hid hb01
  have HS := Lib.hid hs1
  have HR := Lib.hid (And.intro hres hbox)
  clear hmade hb01 hs1 hres hbox hbl0 hmk d0 d2
  generalize W0.alloc (.cells (madeCells #[.int .i64 0] m) 2) = W1 at *
  go_wp2_with (refine wpList_copy_splice rfl (.tmp 16) (.tmp 17) 51 51 rfl 2 Try.underlying51 (by kernel_rfl) (some ⟨W0.heap.size, 0, none⟩) AA m m args.length ac rfl rfl W0.heap.size 0 (List.replicate m (Value.int .i64 0)) 2 HX.out (ints args) ?k1 ?k3 ?k2 (ints_one _) W0.heap.size W0 HB1.out (Nat.le_refl _) ?_)
  case k1 => rw [ints_length]; exact (Nat.min_eq_left hl).symm
  case k2 => rw [ints_length, List.length_replicate]; omega
  case k3 =>
    intro h0
    obtain ⟨b, o, rfl, hb, hc⟩ := HS.out (fun e => by rw [e] at h0; simp at h0)
    first | refine ⟨rfl, _, rfl, fun j v hv => ?_⟩ | refine ⟨_, rfl, fun j v hv => ?_⟩
    rw [Addr.add_lit]
    exact (HB1.out.cell (p := ⟨b, o + j, none⟩) (show b < W0.heap.size by omega)).trans (hc j v hv)
  intro W2 HG hb2
  have hres2 := HR.out.1.below hb2 HR.out.1.lt
  have hbox2 := HR.out.2.below hb2 HR.out.2.lt
  have d1 := hbox2.cell 1
  simp only [List.getElem?_toArray, List.getElem?_cons_zero, List.getElem?_cons_succ] at d1
  have hsp : splice (List.replicate m (Value.int .i64 0)) 0 (ints args) = ints (xn0 n m args).slots := by
    show List.take 0 _ ++ (ints args ++ List.drop (0 + (ints args).length) _) = ints (args ++ List.replicate (m - args.length) 0)
    rw [ints_append, List.take_zero, List.nil_append, List.drop_replicate, Nat.zero_add, ints_length]
    simp [ints]
  have hrl : (xn0 n m args).slots.length = m := by show (args ++ List.replicate (m - args.length) 0).length = m; rw [List.length_append, List.length_replicate]; omega
  have hrr : (xn0 n m args).regs.length = n := by show (List.replicate n 0).length = n; rw [List.length_replicate]
  have hown : W2.ownsRow (w.heap.size + 1 + 1) 2 1 (.slice (some ⟨W0.heap.size, 0, none⟩) m m) m (ints (xn0 n m args).slots) := by
    have h1 := HG.out
    rw [hsp] at h1
    exact ⟨by rw [ints_length, hrl]; omega, .inr ⟨W0.heap.size, m, (ints (xn0 n m args).slots).toArray, rfl, hlo, h1, Nat.le_refl _, by unfold maxLen; omega, by simp [ints_length, hrl], by rw [Nat.mul_one]; simp [List.take_of_length_le, ints_length, hrl]⟩⟩
  have hz2 : W0.heap.size < W2.heap.size := (ownS_lt hown _ rfl).2
  have hz1 : w.heap.size < W2.heap.size := by omega
  have hw2 : w.heap.size + 1 < W2.heap.size := by omega
  have g0 := hres2.cell 0; have g1 := hres2.cell 1; have g2 := hres2.cell 2; have g3 := hres2.cell 3; have g4 := hres2.cell 4; have g5 := hres2.cell 5; have g6 := hres2.cell 6; have g7 := hres2.cell 7
  have r0 := hres2.frozen 0; have r1 := hres2.frozen 1; have r2 := hres2.frozen 2; have r3 := hres2.frozen 3; have r4 := hres2.frozen 4; have r5 := hres2.frozen 5; have r6 := hres2.frozen 6; have r7 := hres2.frozen 7
  simp only [List.getElem?_toArray, List.getElem?_cons_zero, List.getElem?_cons_succ] at g0 g1 g2 g3 g4 g5 g6 g7
  have HO := Lib.hid hown
  have HB2 := Lib.hid (HB0.out.trans (hb2.mono (by omega)))
  have HL := Lib.hid (And.intro hrl hrr)
  have HRP := Lib.hid (show (xn0 n m args).regs = List.replicate n 0 from rfl)
  clear hown hres2 hbox2 hrl hrr hsp HG hb2 HX HB1 HR HS HB0
  go_wp2
  (try simp only [Exit.inBlock, Exit.then])
  refine bodyPost_ret (v := .tuple #[.agg #[.int .i64 0, .int .i64 0, .int .i64 0, .int .i64 0, .slice (some ⟨W2.heap.size, 0, none⟩) n n, .slice (some ⟨W0.heap.size, 0, none⟩) m m, .slice none 0 0, .int .i64 0], .int .i64 0]) ?_ rfl ⟨some ⟨W2.heap.size, 0, none⟩, n, some ⟨W0.heap.size, 0, none⟩, m, none, 0, by rw [HL.out.1, HL.out.2]; rfl, ?_, ?_⟩
  · rw [results_cell_tmp rfl]
    go_simp
  · have hO2 := (mods8 W2 (w.heap.size + 1) (.int .i64 0) (.int .i64 0) (.int .i64 0) (.int .i64 0) (.slice (some ⟨W2.heap.size, 0, none⟩) n n) (.slice (some ⟨W0.heap.size, 0, none⟩) m m) (.slice none 0 0) (.int .i64 0)).ownS HO.out fun k hk hs => by have := ownS_lt HO.out k hk; unfold Is at hs; omega
    refine ⟨?_, ?_, own_none _ _ _ _, fun k h1 h2 => ?_, fun k _ hk => by simp [Value.ownBlock] at hk, fun k _ hk => by simp [Value.ownBlock] at hk⟩
    · rw [HL.out.2, HRP.out]
      have hm9 := own_made ((((((((W2.setCell ⟨w.heap.size + 1, 0, none⟩ (.int .i64 0)).setCell ⟨w.heap.size + 1, 1, none⟩ (.int .i64 0)).setCell ⟨w.heap.size + 1, 2, none⟩ (.int .i64 0)).setCell ⟨w.heap.size + 1, 3, none⟩ (.int .i64 0)).setCell ⟨w.heap.size + 1, 4, none⟩ (.slice (some ⟨W2.heap.size, 0, none⟩) n n)).setCell ⟨w.heap.size + 1, 5, none⟩ (.slice (some ⟨W0.heap.size, 0, none⟩) m m)).setCell ⟨w.heap.size + 1, 6, none⟩ (.slice none 0 0)).setCell ⟨w.heap.size + 1, 7, none⟩ (.int .i64 0)) n hn
      simp only [World.size_setCell] at hm9
      exact ownS_base hm9 (by omega)
    · rw [HL.out.1]
      exact ownS_base (((Mods.refl No _).alloc _).ownS hO2 fun _ _ h => h) (by omega)
    · rw [HL.out.1] at h2
      rw [HL.out.2] at h1
      simp [Value.ownBlock] at h1 h2
      omega
  · exact (blw8 (by omega) HB2.out _ _ _ _ _ _ _ _).alloc (by have := HB2.out.size; simp; omega) _

end Go.Proofs.Ytcoehkphdfejjaa

/-
  The program's Exec.
-/
namespace Go.Proofs.Ytcoehkphdfejjaa
open Go.RowKit
set_option linter.unusedVariables false
set_option linter.unusedSimpArgs false

set_option maxRecDepth 100000 in
set_option maxHeartbeats 2000000 in
theorem xexec_bad (na : Nat) (regs slots : Int) (FA AA : Option Addr) (bl bc ac : Nat) (fa fuel : Int) (w : World) (h : ¬ (na : Int) = fa) (hm : na ≤ maxLen) :
    Calls Try.prog 17 #[.agg #[.int .i64 fa, .int .i64 regs, .int .i64 slots, .slice FA bl bc], .slice AA na ac, .int .i64 fuel] w (XQ w zrx 32) := by
  have hb0 := ((Below.refl w.heap.size w).alloc (Nat.le_refl _) (.cells #[.int .i64 fa, .int .i64 regs, .int .i64 slots, .slice FA bl bc] 29)).alloc (by simp) (.cells #[.int .i64 0, .int .i64 0, .int .i64 0, .int .i64 0, .slice none 0 0, .slice none 0 0, .slice none 0 0, .int .i64 0] 54)
  have hrs := Row.new' (W := w.alloc (.cells #[.int .i64 fa, .int .i64 regs, .int .i64 slots, .slice FA bl bc] 29)) (p := w.heap.size + 1) (by simp) 54 #[.int .i64 0, .int .i64 0, .int .i64 0, .int .i64 0, .slice none 0 0, .slice none 0 0, .slice none 0 0, .int .i64 0]
  have HB := Lib.hid hb0
  have HR := Lib.hid hrs
  clear hb0 hrs
  have C1 := Lib.hid fun W => xstart_bad na regs slots FA AA bl bc ac fa W h hm
  clear h hm
  go_enter Try.func17, Try.ntmps17
  go_wp2_with fail
  refine (C1.out _).mono ?_
  rintro e W1 ⟨RA, rc, SA, sc, TA, tc, rfl, hv, hb⟩
  have hrow := HR.out.below hb HR.out.lt
  have g0 := hrow.cell 0; have g1 := hrow.cell 1; have g2 := hrow.cell 2; have g3 := hrow.cell 3; have g4 := hrow.cell 4; have g5 := hrow.cell 5; have g6 := hrow.cell 6; have g7 := hrow.cell 7
  have r0 := hrow.frozen 0; have r1 := hrow.frozen 1; have r2 := hrow.frozen 2; have r3 := hrow.frozen 3; have r4 := hrow.frozen 4; have r5 := hrow.frozen 5; have r6 := hrow.frozen 6; have r7 := hrow.frozen 7
  simp only [List.getElem?_toArray, List.getElem?_cons_zero, List.getElem?_cons_succ] at g0 g1 g2 g3 g4 g5 g6 g7
  have hlt := hrow.lt
  have HB1 := Lib.hid (HB.out.trans (hb.mono HB.out.size))
  clear hrow hv hb HB HR C1
  go_wp2
  (try simp only [Exit.inBlock, Exit.then])
  have hb9 := blw8 (p := w.heap.size + 1) (by omega) HB1.out (.int .i64 0) (.int .i64 0) (.int .i64 0) (.int .i64 0) (.slice none 0 0) (.slice none 0 0) (.slice none 0 0) (.int .i64 0)
  refine bodyPost_ret (v := .tuple #[.agg #[.int .i64 0, .int .i64 0, .int .i64 0, .int .i64 0, .slice none 0 0, .slice none 0 0, .slice none 0 0, .int .i64 0], .int .i64 32]) ?_ rfl ⟨none, 0, none, 0, none, 0, rfl, XV.zero _ _, hb9.alloc hb9.size _⟩
  rw [results_cell_tmp rfl]
  go_simp

set_option maxRecDepth 100000 in
set_option maxHeartbeats 4000000 in
theorem xexec_any (args : List Int) (n m : Nat) (bs : List MBlk) (B : Nat) (BA AA : Option Addr) (bc ac : Nat) (fuel : Int) (w : World) (hs : Sees w B AA (ints args)) (hbs : MBlksAt w B BA bs) (hB : B ≤ w.heap.size) (hn : n ≤ 1000) (hm9 : m ≤ 1000) (hl : args.length ≤ m) (hF : OkM n m bs) (hwa : ∀ v ∈ args, InI v) (hcn : mcodeN bs ≤ 1000000) (hm : bs.length ≤ 1000) (hfu : fuel ≤ 1000000) :
    Calls Try.prog 17 #[.agg #[.int .i64 args.length, .int .i64 n, .int .i64 m, .slice BA bs.length bc], .slice AA args.length ac, .int .i64 fuel] w (XQ w (runX bs (xn0 n m args) fuel.toNat) 0) := by
  have hb0 := ((Below.refl w.heap.size w).alloc (Nat.le_refl _) (.cells #[.int .i64 args.length, .int .i64 n, .int .i64 m, .slice BA bs.length bc] 29)).alloc (by simp) (.cells #[.int .i64 0, .int .i64 0, .int .i64 0, .int .i64 0, .slice none 0 0, .slice none 0 0, .slice none 0 0, .int .i64 0] 54)
  have hbx := (Row.new w 29 #[.int .i64 args.length, .int .i64 n, .int .i64 m, .slice BA bs.length bc]).alloc (.cells #[.int .i64 0, .int .i64 0, .int .i64 0, .int .i64 0, .slice none 0 0, .slice none 0 0, .slice none 0 0, .int .i64 0] 54)
  have hrs := Row.new' (W := w.alloc (.cells #[.int .i64 args.length, .int .i64 n, .int .i64 m, .slice BA bs.length bc] 29)) (p := w.heap.size + 1) (by simp) 54 #[.int .i64 0, .int .i64 0, .int .i64 0, .int .i64 0, .slice none 0 0, .slice none 0 0, .slice none 0 0, .int .i64 0]
  have hsz : ((w.alloc (.cells #[.int .i64 args.length, .int .i64 n, .int .i64 m, .slice BA bs.length bc] 29)).alloc (.cells #[.int .i64 0, .int .i64 0, .int .i64 0, .int .i64 0, .slice none 0 0, .slice none 0 0, .slice none 0 0, .int .i64 0] 54)).heap.size = w.heap.size + 1 + 1 := by simp
  have C1 := Lib.hid (xstart_any args n m w.heap.size BA AA bs.length bc ac _ ((hs.more hB).below hb0) hb0.size hn hm9 hl)
  have HB := Lib.hid hb0
  have HX := Lib.hid hbx
  have HR := Lib.hid hrs
  have HZ := Lib.hid hsz
  have HBS := Lib.hid (hbs.more hB)
  have HG0 := Lib.hid (xn0_good hF hl hwa)
  have HL := Lib.hid hl
  clear hb0 hbx hrs hsz hs hbs hl hwa
  go_enter Try.func17, Try.ntmps17
  go_wp2_with fail
  refine C1.out.mono ?_
  generalize ((w.alloc (.cells #[.int .i64 args.length, .int .i64 n, .int .i64 m, .slice BA bs.length bc] 29)).alloc (.cells #[.int .i64 0, .int .i64 0, .int .i64 0, .int .i64 0, .slice none 0 0, .slice none 0 0, .slice none 0 0, .int .i64 0] 54)) = W0 at *
  rintro e W1 ⟨RA, rc, SA, sc, TA, tc, rfl, hv, hb⟩
  have hv2 := hv.base (lo' := w.heap.size + 1 + 1) (by have := HZ.out; omega)
  have hbx1 := HX.out.below hb HX.out.lt
  have hrs1 := HR.out.below hb HR.out.lt
  have hz1 : w.heap.size + 1 + 1 ≤ W1.heap.size := by have := HZ.out; have := hb.size; omega
  have HB1 := Lib.hid (HB.out.trans (hb.mono HB.out.size))
  have HV := Lib.hid hv2
  have HX1 := Lib.hid hbx1
  have HR1 := Lib.hid hrs1
  have d3 := hbx1.cell 3
  simp only [List.getElem?_toArray, List.getElem?_cons_zero, List.getElem?_cons_succ] at d3
  clear hv hv2 hb hbx1 hrs1 HB HX HR HZ C1
  have hw1 : w.heap.size < W1.heap.size := by omega
  have hbz := ((Below.refl W1.heap.size W1).alloc (Nat.le_refl _) (.cells #[.int .i64 (xn0 n m args).st, .int .i64 ((xn0 n m args).blk : Int), .int .i64 ((xn0 n m args).pos : Int), .int .i64 (xn0 n m args).val, .slice RA (xn0 n m args).regs.length rc, .slice SA (xn0 n m args).slots.length sc, .slice TA (xn0 n m args).trace.length tc, .int .i64 ((xn0 n m args).steps : Int)] 54)).alloc (by simp) (.cells #[.int .i64 (xn0 n m args).st, .int .i64 ((xn0 n m args).blk : Int), .int .i64 ((xn0 n m args).pos : Int), .int .i64 (xn0 n m args).val, .slice RA (xn0 n m args).regs.length rc, .slice SA (xn0 n m args).slots.length sc, .slice TA (xn0 n m args).trace.length tc, .int .i64 ((xn0 n m args).steps : Int), .slice BA bs.length bc] 84)
  have hI : Xp ((W1.alloc (.cells #[.int .i64 (xn0 n m args).st, .int .i64 ((xn0 n m args).blk : Int), .int .i64 ((xn0 n m args).pos : Int), .int .i64 (xn0 n m args).val, .slice RA (xn0 n m args).regs.length rc, .slice SA (xn0 n m args).slots.length sc, .slice TA (xn0 n m args).trace.length tc, .int .i64 ((xn0 n m args).steps : Int)] 54)).alloc (.cells #[.int .i64 (xn0 n m args).st, .int .i64 ((xn0 n m args).blk : Int), .int .i64 ((xn0 n m args).pos : Int), .int .i64 (xn0 n m args).val, .slice RA (xn0 n m args).regs.length rc, .slice SA (xn0 n m args).slots.length sc, .slice TA (xn0 n m args).trace.length tc, .int .i64 ((xn0 n m args).steps : Int), .slice BA bs.length bc] 84)) (w.heap.size + 1 + 1) (W1.heap.size + 1) exT [.slice BA bs.length bc] RA rc SA sc TA tc (xn0 n m args) :=
    ⟨Row.new' (p := W1.heap.size + 1) (by simp) _ _, HV.out.below hbz, by omega, by decide⟩
  have HI0 := Lib.hid hI
  have HR2 := Lib.hid (HR1.out.below hbz HR1.out.lt)
  have HB2 := Lib.hid (HB1.out.trans (hbz.mono HB1.out.size))
  have HS0 := Lib.hid (show (xn0 n m args).st = 0 ∧ (xn0 n m args).steps = 0 from ⟨rfl, rfl⟩)
  have hfu2 : fuel ≤ 1073741824 := by omega
  clear hbz hI HR1 HB1 HX1 HV
  go_upto_region 5 with fail
  clear d3
  go_wp2
  go_loopg [] fuel.toNat (fun g wr => ∃ (k : Nat) (RB : Option Addr) (rd : Nat) (SB : Option Addr) (sd : Nat) (TB : Option Addr) (td : Nat), k + g = fuel.toNat ∧ Hid (Xp wr (w.heap.size + 1 + 1) (W1.heap.size + 1) exT [.slice BA bs.length bc] RB rd SB sd TB td (runX bs (xn0 n m args) k)) ∧ Hid (Row wr (w.heap.size + 1) 54 #[.int .i64 0, .int .i64 0, .int .i64 0, .int .i64 0, .slice none 0 0, .slice none 0 0, .slice none 0 0, .int .i64 0]) ∧ Hid (Below w.heap.size w wr))
  case atStart => exact ⟨0, RA, rc, SA, sc, TA, tc, by omega, HI0.out, HR2.out, HB2.out⟩
  case round =>
    obtain ⟨k, RB, rd, SB, sd, TB, td, hk, HI, HRW, HBW⟩ := hrel
    have hgd := runX_good hF HG0.out k
    have hsp := runX_steps bs (xn0 n m args) k
    have hstop := runX_stop bs (xn0 n m args) (n := k)
    rw [HS0.out.2, Nat.zero_add] at hsp
    have HGD := Lib.hid hgd
    have HSP := Lib.hid hsp
    have HKN : Hid (runX bs (xn0 n m args) (k + 1) = stepX bs (runX bs (xn0 n m args) k)) := rfl
    have HFIN : Hid (¬ (k : Int) < fuel → runX bs (xn0 n m args) fuel.toNat = runX bs (xn0 n m args) k) := fun h => by rw [show fuel.toNat = k by omega]
    have HFX: Hid (¬ (runX bs (xn0 n m args) k).st = 0 → runX bs (xn0 n m args) fuel.toNat = runX bs (xn0 n m args) k) := fun h => by rw [← hk]; exact hstop h gk
    have hk9 : (k : Int) ≤ 1000000 := by omega
    clear HI0 HR2 HB2 hgd hsp hstop
    generalize hr : runX bs (xn0 n m args) k = r at *
    have HRR := Lib.hid hr
    clear hr
    obtain ⟨f0, f1, f2, f3, f4, f5, f6, f7⟩ := HI.out.cells
    have hq9 : W1.heap.size + 1 < wr.heap.size := HI.out.row.lt
    by_cases h0 : r.st = 0
    · have e0 : (r.st == 0) = true := by simp [h0]
      have hsk : r.steps = k := HSP.out.2.2 h0
      by_cases hkf : (k : Int) < fuel
      · have hlt : (r.steps : Int) < fuel := by omega
        have hgp : 0 < gk := by omega
        have hn9 := HGD.out.lenr
        have hm8 := HGD.out.lens
        have C2 := Lib.hid (xstep_any bs r w.heap.size (w.heap.size + 1 + 1) (W1.heap.size + 1) RB SB TB BA rd sd td bc wr HI.out (HBS.out.below HBW.out) (by omega) (by rw [hn9, hm8]; exact hF) (by rw [hn9, hm8]; exact HGD.out) h0 (by omega) (by omega) (by omega) hcn hm)
        have HH := Lib.hid (And.intro h0 (And.intro hsk (And.intro hgp hk)))
        clear h0 hsk hgp hk hn9 hm8
        go_wp2_with fail
        refine C2.out.mono ?_
        rintro e W4 ⟨rfl, RC, re, SC, se, TC, te, hI4, hb4⟩
        have HI4 := Lib.hid hI4
        have HR4 := Lib.hid (HRW.out.below hb4 (by omega))
        have HB4 := Lib.hid (HBW.out.trans (hb4.mono (by omega)))
        clear hI4 hb4 f0 f1 f2 f3 f4 f5 f6 f7 C2
        go_wp2
        go_roundg (gk - 1)
        case measure => have := HH.out.2.2.1; omega
        case rel => exact ⟨k + 1, RC, re, SC, se, TC, te, by have := HH.out.2.2; omega, by rw [Hid, HKN.out]; exact HI4.out, HR4.out, HB4.out⟩
      · have hlt : fuel ≤ (r.steps : Int) := by omega
        have HE := Lib.hid (HFIN.out hkf)
        clear hkf h0 hsk hk
        have HR4 := HRW
        have g0 := HRW.out.cell 0; have g1 := HRW.out.cell 1; have g2 := HRW.out.cell 2; have g3 := HRW.out.cell 3; have g4 := HRW.out.cell 4; have g5 := HRW.out.cell 5; have g6 := HRW.out.cell 6; have g7 := HRW.out.cell 7
        have r0' := HRW.out.frozen 0; have r1 := HRW.out.frozen 1; have r2 := HRW.out.frozen 2; have r3 := HRW.out.frozen 3; have r4 := HRW.out.frozen 4; have r5 := HRW.out.frozen 5; have r6 := HRW.out.frozen 6; have r7 := HRW.out.frozen 7
        simp only [List.getElem?_toArray, List.getElem?_cons_zero, List.getElem?_cons_succ] at g0 g1 g2 g3 g4 g5 g6 g7
        go_wp2
        (try simp only [Exit.inBlock, Exit.then])
        rw [HE.out]
        refine bodyPost_ret (v := .tuple #[.agg #[.int .i64 r.st, .int .i64 (r.blk : Int), .int .i64 (r.pos : Int), .int .i64 r.val, .slice RB r.regs.length rd, .slice SB r.slots.length sd, .slice TB r.trace.length td, .int .i64 (r.steps : Int)], .int .i64 0]) ?_ rfl ⟨RB, rd, SB, sd, TB, td, rfl, (HI.out.v.mods (mods8 wr (w.heap.size + 1) _ _ _ _ _ _ _ _) (fun k hk => .inl (by unfold Is at hk; omega))).base (by omega), blw8 (by omega) HBW.out _ _ _ _ _ _ _ _⟩
        rw [results_cell_tmp rfl]
        go_simp
    · have e0 : (r.st == 0) = false := by simp [h0]
      have HE := Lib.hid (HFX.out h0)
      clear h0 hk
      have HR4 := HRW
      have g0 := HRW.out.cell 0; have g1 := HRW.out.cell 1; have g2 := HRW.out.cell 2; have g3 := HRW.out.cell 3; have g4 := HRW.out.cell 4; have g5 := HRW.out.cell 5; have g6 := HRW.out.cell 6; have g7 := HRW.out.cell 7
      have r0' := HRW.out.frozen 0; have r1 := HRW.out.frozen 1; have r2 := HRW.out.frozen 2; have r3 := HRW.out.frozen 3; have r4 := HRW.out.frozen 4; have r5 := HRW.out.frozen 5; have r6 := HRW.out.frozen 6; have r7 := HRW.out.frozen 7
      simp only [List.getElem?_toArray, List.getElem?_cons_zero, List.getElem?_cons_succ] at g0 g1 g2 g3 g4 g5 g6 g7
      go_wp2
      (try simp only [Exit.inBlock, Exit.then])
      rw [HE.out]
      refine bodyPost_ret (v := .tuple #[.agg #[.int .i64 r.st, .int .i64 (r.blk : Int), .int .i64 (r.pos : Int), .int .i64 r.val, .slice RB r.regs.length rd, .slice SB r.slots.length sd, .slice TB r.trace.length td, .int .i64 (r.steps : Int)], .int .i64 0]) ?_ rfl ⟨RB, rd, SB, sd, TB, td, rfl, (HI.out.v.mods (mods8 wr (w.heap.size + 1) _ _ _ _ _ _ _ _) (fun k hk => .inl (by unfold Is at hk; omega))).base (by omega), blw8 (by omega) HBW.out _ _ _ _ _ _ _ _⟩
      rw [results_cell_tmp rfl]
      go_simp

end Go.Proofs.Ytcoehkphdfejjaa
