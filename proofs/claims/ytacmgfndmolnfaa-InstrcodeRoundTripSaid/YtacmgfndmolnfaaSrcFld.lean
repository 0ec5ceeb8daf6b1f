/-
  The program's inRange and unusedZero.
-/
import Derived.Test.YtacmgfndmolnfaaPk1
import Derived.LoopTactic
import Derived.Below
namespace Go.Proofs.Ytacmgfndmolnfaa
open Go.RowKit
set_option linter.unusedVariables false

def Flds (w : World) (B : Nat) (A : Option Addr) (fs : List Fld) : Prop := Sees w B A (fs.flatMap Fld.cells)
theorem Flds.at_ {w : World} {B : Nat} {A : Option Addr} {fs : List Fld} (h : Flds w B A fs) {k : Nat} (hk : k < fs.length) :
    ∃ b o, A = some ⟨b, o, none⟩ ∧ b < B ∧ w.cell? ⟨b, o + k * 2, none⟩ = some (.bool fs[k].1) ∧ w.cell? ⟨b, o + k * 2 + 1, none⟩ = some (.int .i64 fs[k].2) := by
  have hg := flat_get Fld.cells 2 (fun _ => rfl) fs k fs[k] (List.getElem?_eq_getElem hk)
  have h0 := hg 0 _ rfl
  have h1 := hg 1 _ rfl
  obtain ⟨b, o, e, hb, hc⟩ := h (by intro e; rw [e] at h0; cases h0)
  exact ⟨b, o, e, hb, hc _ _ h0, by rw [Nat.add_assoc]; exact hc _ _ h1⟩
theorem Flds.below {w w' : World} {B : Nat} {A : Option Addr} {fs : List Fld} (h : Flds w B A fs) (hb : Below B w w') : Flds w' B A fs := Sees.below h hb
theorem Flds.more {w : World} {B B' : Nat} {A : Option Addr} {fs : List Fld} (h : Flds w B A fs) (hB : B ≤ B') : Flds w B' A fs := Sees.more h hB

end Go.Proofs.Ytacmgfndmolnfaa
