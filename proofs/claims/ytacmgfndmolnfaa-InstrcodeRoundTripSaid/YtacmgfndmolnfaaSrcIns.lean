/-
  The program's Instr.
-/
import Derived.Test.YtacmgfndmolnfaaSrcFld
import Derived.Test.YtacmgfndmolnfaaPk1
namespace Go.Proofs.Ytacmgfndmolnfaa
open Go.RowKit
set_option linter.unusedVariables false

theorem sees_new' {W : World} {p : Nat} (hp : W.heap.size = p) (cs : Array Value) (t : TypeId) {xs : List Value} (hx : xs = cs.toList) : Sees (W.alloc (.cells cs t)) (p + 1) (some ⟨p, 0, none⟩) xs := by
  subst hp
  subst hx
  exact sees_new W cs t
theorem Row.new' {W : World} {p : Nat} (hp : W.heap.size = p) (T : TypeId) (cs : Array Value) : Row (W.alloc (.cells cs T)) p T cs := by
  subst hp
  exact Row.new W T cs

/-- Fields laid one behind the other, and what a later world still shows of them. -/
theorem rows5 {W1 W3 : World} {s0 f0 f1 f2 f3 g : Array Value} {ts t : TypeId} (hb : Below ((((((W1.alloc (.cells s0 ts)).alloc (.cells f0 t)).alloc (.cells f1 t)).alloc (.cells f2 t)).alloc (.cells f3 t)).alloc (.cells g t)).heap.size ((((((W1.alloc (.cells s0 ts)).alloc (.cells f0 t)).alloc (.cells f1 t)).alloc (.cells f2 t)).alloc (.cells f3 t)).alloc (.cells g t)) W3) :
    (∀ i, W3.cell? ⟨W1.heap.size + 1, i, none⟩ = f0[i]?) ∧ (∀ i, W3.cell? ⟨W1.heap.size + 1 + 1, i, none⟩ = f1[i]?) ∧ (∀ i, W3.cell? ⟨W1.heap.size + 1 + 1 + 1, i, none⟩ = f2[i]?) ∧ (∀ i, W3.cell? ⟨W1.heap.size + 1 + 1 + 1 + 1, i, none⟩ = f3[i]?) ∧ Below W1.heap.size W1 W3 := by
  have r0 := (((((Row.new' (W := W1.alloc (.cells s0 ts)) (p := W1.heap.size + 1) (by simp) t f0).alloc (.cells f1 t)).alloc (.cells f2 t)).alloc (.cells f3 t)).alloc (.cells g t)).below hb (by simp)
  have r1 := ((((Row.new' (W := (W1.alloc (.cells s0 ts)).alloc (.cells f0 t)) (p := W1.heap.size + 1 + 1) (by simp) t f1).alloc (.cells f2 t)).alloc (.cells f3 t)).alloc (.cells g t)).below hb (by simp)
  have r2 := (((Row.new' (W := ((W1.alloc (.cells s0 ts)).alloc (.cells f0 t)).alloc (.cells f1 t)) (p := W1.heap.size + 1 + 1 + 1) (by simp) t f2).alloc (.cells f3 t)).alloc (.cells g t)).below hb (by simp)
  have r3 := ((Row.new' (W := (((W1.alloc (.cells s0 ts)).alloc (.cells f0 t)).alloc (.cells f1 t)).alloc (.cells f2 t)) (p := W1.heap.size + 1 + 1 + 1 + 1) (by simp) t f3).alloc (.cells g t)).below hb (by simp)
  refine ⟨r0.cell, r1.cell, r2.cell, r3.cell, ?_⟩
  have h0 := ((((((Below.refl W1.heap.size W1).alloc (Nat.le_refl _) (.cells s0 ts)).alloc (by simp) (.cells f0 t)).alloc (by simp; omega) (.cells f1 t)).alloc (by simp; omega) (.cells f2 t)).alloc (by simp; omega) (.cells f3 t)).alloc (by simp; omega) (.cells g t)
  exact h0.trans (hb.mono h0.size)

end Go.Proofs.Ytacmgfndmolnfaa
