/-
  The reference of layer 17: Term (its text is made by wip/lab/genicterm.py).
-/
import Derived.Test.YtkapmfopfddmbaaGreatPk4
namespace Go.Proofs.YtkapmfopfddmbaaGreat
open Go.RowKit
set_option linter.unusedVariables false
set_option linter.unusedSimpArgs false

section
variable {w W W' : World} {B b9 b10 : Nat} {m m' : Tm} {t t' : Ip} {A A' : Option Addr} {c c' : Nat}

theorem Row.put4i {W : World} {p : Nat} {T : TypeId} {z0 z1 z2 z3 : Value} (h : Row W p T #[z0, z1, z2, z3]) (a0 a1 a2 a3 : Value) :
    Row ((((W.setCell ⟨p, 0, none⟩ a0).setCell ⟨p, 1, none⟩ a1).setCell ⟨p, 2, none⟩ a2).setCell ⟨p, 3, none⟩ a3) p T #[a0, a1, a2, a3] := by
  have q0 : Row _ p T #[a0, z1, z2, z3] := h.put 0 a0
  have q1 : Row _ p T #[a0, a1, z2, z3] := q0.put 1 a1
  have q2 : Row _ p T #[a0, a1, a2, z3] := q1.put 2 a2
  exact q2.put 3 a3

theorem mods4i (W : World) (p : Nat) (a0 a1 a2 a3 : Value) : Mods (Is p) W ((((W.setCell ⟨p, 0, none⟩ a0).setCell ⟨p, 1, none⟩ a1).setCell ⟨p, 2, none⟩ a2).setCell ⟨p, 3, none⟩ a3) :=
  ((((Mods.refl _ W).put 0 a0).put 1 a1).put 2 a2).put 3 a3

end

/-- What the reference's reading of terminators returns. -/
def RQT (w : World) (B : Nat) (m : Tm) (t : Ip) (e : Ending) (w' : World) : Prop :=
  ∃ A' c', e = .returned (.tuple #[.agg #[.int .i64 m.kind, .int .i64 m.a, .int .i64 m.to, .int .i64 m.el], .agg #[.slice A' t.rest.length c', .int .i64 t.err]]) ∧ IpV w' B A' c' t ∧ Below w.heap.size w w'

end Go.Proofs.YtkapmfopfddmbaaGreat
