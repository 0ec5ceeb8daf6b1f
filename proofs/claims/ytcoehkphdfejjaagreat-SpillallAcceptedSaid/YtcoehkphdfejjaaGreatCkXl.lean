/-
  What the walks that check a block on its own carry; whether the blocks so far are accepted.
-/
import Derived.Test.YtcoehkphdfejjaaGreatCkMem
import Derived.Test.YtcoehkphdfejjaaGreatCkVal
import Derived.Test.YtcoehkphdfejjaaGreatCkLp
namespace Go.Proofs.YtcoehkphdfejjaaGreat
open Go.RowKit
set_option linter.unusedVariables false

/-- Whether the sets behind edges are implied. -/
def okE (c : Ct) (out : List Pr) (l : List Int) : Bool := l.all fun t => (misP (c.i t.toNat) out).isNone

def okBb (c : Ct) (i : Nat) : Bool := (ckB c i).err == 0 && okE c (ckB c i).out (succs (blkAt c.bs i).term)

def okL (c : Ct) : Nat → Bool
  | 0 => true
  | i + 1 => okL c i && okBb c i

theorem okE_step (c : Ct) (out : List Pr) {l : List Int} {k : Nat} (h : k < l.length) : okE c out (l.take (k + 1)) = (okE c out (l.take k) && (misP (c.i l[k].toNat) out).isNone) := by
  unfold okE
  rw [List.take_succ_eq_append_getElem h, List.all_append]
  simp

theorem okE_take {c : Ct} {out : List Pr} {l : List Int} {k : Nat} (h : okE c out (l.take k) = false) : okE c out l = false := by
  unfold okE at *
  rw [List.all_eq_false] at *
  obtain ⟨x, hx, hn⟩ := h
  exact ⟨x, List.mem_of_mem_take hx, hn⟩

theorem okBb_iff (c : Ct) (i : Nat) : okBb c i = true ↔ okB c i := by
  unfold okBb okB okE
  rw [Bool.and_eq_true, beq_iff_eq, List.all_eq_true]
  simp

theorem okL_iff (c : Ct) : ∀ k, okL c k = true ↔ ∀ j, j < k → okB c j
  | 0 => ⟨fun _ j hj => by omega, fun _ => rfl⟩
  | k + 1 => by
    unfold okL
    rw [Bool.and_eq_true, okL_iff c k, okBb_iff]
    exact ⟨fun h j hj => (Nat.lt_or_eq_of_le (Nat.le_of_lt_succ hj)).elim (h.1 j) fun e => e ▸ h.2, fun h => ⟨fun j hj => h j (by omega), h k (by omega)⟩⟩

/-- What the statement on single blocks asks. -/
theorem checkC_local {c : Ct} (h : validC c = 0) : ((checkC c).err = 23 ∧ (checkC c).blocks = 0) ∨ ((checkC c).err ≠ 23 ∧ okL c c.bs.length = decide ((checkC c).err = 0)) := by
  rcases checkC_ways c h with ⟨h1, h2⟩ | ⟨h1, h2⟩ | ⟨h1, j, h2, h3, h4, h5, h6, h7⟩
  · refine .inr ⟨by rw [h2]; decide, ?_⟩
    rw [(okL_iff c _).2 h1.2.2, h2]
    rfl
  · rw [h2]
    exact .inl ⟨rfl, rfl⟩
  · refine .inr ⟨h6, ?_⟩
    rw [decide_eq_false h5, Bool.eq_false_iff]
    exact fun hh => h3 ((okL_iff c _).1 hh j h2)

/-- The certificate; the result of a block's check in a block of its own, its list. -/
structure XL (w : World) (A1 : Option Addr) (k1 : Nat) (A2 : Option Addr) (k2 : Nat) (A3 : Option Addr) (k3 : Nat) (c : Ct) (xb : Nat) (T : TypeId) (A : Option Addr) (cc : Nat) (x : Rs) (W : World) : Prop where
  k : CeK w w.heap.size A1 k1 A2 k2 A3 k3 c W
  row : Row W xb T #[.slice A x.out.length cc, .int .i64 x.err, .int .i64 (x.at_ : Int), .int .i64 (x.steps : Int), .int .i64 (x.largest : Int)]
  lt : w.heap.size < xb
  pl : PL w (.slice A x.out.length cc) x.out W

section
variable {w W W' : World} {A1 : Option Addr} {k1 : Nat} {A2 : Option Addr} {k2 : Nat} {A3 : Option Addr} {k3 : Nat} {c : Ct} {xb : Nat} {T : TypeId} {A : Option Addr} {cc : Nat} {x : Rs}

theorem CeK.drewN (h : CeK w w.heap.size A1 k1 A2 k2 A3 k3 c W) (n : Nat) : CeK w w.heap.size A1 k1 A2 k2 A3 k3 c (W.drewN n) := h.next (Grew.drewN (Grew.refl W) n).below

theorem CeK.drew (h : CeK w w.heap.size A1 k1 A2 k2 A3 k3 c W) : CeK w w.heap.size A1 k1 A2 k2 A3 k3 c W.drew := h.drewN 1

theorem CeK.cells (h : CeK w w.heap.size A1 k1 A2 k2 A3 k3 c W) : CeK w w.heap.size A1 k1 A2 k2 A3 k3 c W ∧ W.cell? ⟨w.heap.size, 0, none⟩ = some (.int .i64 c.sa) ∧ W.cell? ⟨w.heap.size, 1, none⟩ = some (.int .i64 c.sr) ∧ W.cell? ⟨w.heap.size, 2, none⟩ = some (.slice A1 c.bs.length k1) ∧ W.cell? ⟨w.heap.size, 3, none⟩ = some (.int .i64 c.ta) ∧ W.cell? ⟨w.heap.size, 4, none⟩ = some (.int .i64 c.tr) ∧ W.cell? ⟨w.heap.size, 5, none⟩ = some (.int .i64 c.ts) ∧ W.cell? ⟨w.heap.size, 6, none⟩ = some (.slice A2 c.ms.length k2) ∧ W.cell? ⟨w.heap.size, 7, none⟩ = some (.slice A3 c.inv.length k3) :=
  ⟨h, h.row.cell 0, h.row.cell 1, h.row.cell 2, h.row.cell 3, h.row.cell 4, h.row.cell 5, h.row.cell 6, h.row.cell 7⟩

theorem CeK.mods {p : Nat} (h : CeK w w.heap.size A1 k1 A2 k2 A3 k3 c W) (hm : Mods (Is p) W W') (hp : w.heap.size < p) : CeK w w.heap.size A1 k1 A2 k2 A3 k3 c W' := by
  have hb : Below w.heap.size W W' := hm.below h.blw.size fun k hk => by have : k = p := hk; omega
  exact ⟨h.blw.trans hb, h.row.mods hm (fun e => by have : w.heap.size = p := e; omega), h.see.below hb⟩

theorem XL.next (h : XL w A1 k1 A2 k2 A3 k3 c xb T A cc x W) (hb : Below W.heap.size W W') : XL w A1 k1 A2 k2 A3 k3 c xb T A cc x W' := ⟨h.k.next hb, h.row.below hb h.row.lt, h.lt, h.pl.next hb⟩

theorem XL.drewN (h : XL w A1 k1 A2 k2 A3 k3 c xb T A cc x W) (n : Nat) : XL w A1 k1 A2 k2 A3 k3 c xb T A cc x (W.drewN n) := h.next (Grew.drewN (Grew.refl W) n).below

theorem XL.drew (h : XL w A1 k1 A2 k2 A3 k3 c xb T A cc x W) : XL w A1 k1 A2 k2 A3 k3 c xb T A cc x W.drew := h.drewN 1

theorem XL.of {W1 : World} {z0 z1 z2 z3 z4 : Value} (h : CeK w w.heap.size A1 k1 A2 k2 A3 k3 c W1) (hp : PL w (.slice A x.out.length cc) x.out W1) (hr : Row W1 xb T #[z0, z1, z2, z3, z4]) (hlt : w.heap.size < xb) (hT : 89 ≠ T) :
    XL w A1 k1 A2 k2 A3 k3 c xb T A cc x (((((W1.setCell ⟨xb, 0, none⟩ (.slice A x.out.length cc)).setCell ⟨xb, 1, none⟩ (.int .i64 x.err)).setCell ⟨xb, 2, none⟩ (.int .i64 (x.at_ : Int))).setCell ⟨xb, 3, none⟩ (.int .i64 (x.steps : Int))).setCell ⟨xb, 4, none⟩ (.int .i64 (x.largest : Int))) :=
  ⟨h.mods (mods5 W1 xb _ _ _ _ _) hlt, hr.put5 _ _ _ _ _, hlt, hp.put_at hr hT (by omega) (mods5 W1 xb _ _ _ _ _)⟩

end

end Go.Proofs.YtcoehkphdfejjaaGreat
