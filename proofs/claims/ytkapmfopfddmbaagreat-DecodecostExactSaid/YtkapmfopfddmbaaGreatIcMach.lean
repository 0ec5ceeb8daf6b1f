/-
  The reference of layer 17: Mach, Instr (texts made by wip/lab/genicmach.py).
-/
import Derived.Test.YtkapmfopfddmbaaGreatIcRead
namespace Go.Proofs.YtkapmfopfddmbaaGreat
open Go.RowKit
set_option linter.unusedVariables false
set_option linter.unusedSimpArgs false

theorem Row.put5i {W : World} {p : Nat} {T : TypeId} {z0 z1 z2 z3 z4 : Value} (h : Row W p T #[z0, z1, z2, z3, z4]) (a0 a1 a2 a3 a4 : Value) :
    Row (((((W.setCell ⟨p, 0, none⟩ a0).setCell ⟨p, 1, none⟩ a1).setCell ⟨p, 2, none⟩ a2).setCell ⟨p, 3, none⟩ a3).setCell ⟨p, 4, none⟩ a4) p T #[a0, a1, a2, a3, a4] := by
  have q0 : Row _ p T #[a0, z1, z2, z3, z4] := h.put 0 a0
  have q1 : Row _ p T #[a0, a1, z2, z3, z4] := q0.put 1 a1
  have q2 : Row _ p T #[a0, a1, a2, z3, z4] := q1.put 2 a2
  have q3 : Row _ p T #[a0, a1, a2, a3, z4] := q2.put 3 a3
  exact q3.put 4 a4

theorem mods5i (W : World) (p : Nat) (a0 a1 a2 a3 a4 : Value) : Mods (Is p) W (((((W.setCell ⟨p, 0, none⟩ a0).setCell ⟨p, 1, none⟩ a1).setCell ⟨p, 2, none⟩ a2).setCell ⟨p, 3, none⟩ a3).setCell ⟨p, 4, none⟩ a4) :=
  (((((Mods.refl _ W).put 0 a0).put 1 a1).put 2 a2).put 3 a3).put 4 a4

def RQI (w : World) (B : Nat) (m : Mi) (t : Ip) (e : Ending) (w' : World) : Prop :=
  ∃ A' c', e = .returned (.tuple #[.agg #[.int .i64 m.op, .int .i64 m.d, .int .i64 m.a, .int .i64 m.b, .int .i64 m.imm], .agg #[.slice A' t.rest.length c', .int .i64 t.err]]) ∧ IpV w' B A' c' t ∧ Below w.heap.size w w'

end Go.Proofs.YtkapmfopfddmbaaGreat
