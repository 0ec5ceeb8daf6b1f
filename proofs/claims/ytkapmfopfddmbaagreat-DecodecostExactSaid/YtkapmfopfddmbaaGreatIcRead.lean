/-
  The reference of layer 17: read, an instruction behind its opcode (its text is made by wip/lab/genicread.py).
-/
import Derived.Test.YtkapmfopfddmbaaGreatPk4
import Derived.Test.YtkapmfopfddmbaaGreatPk3
import Derived.Test.YtkapmfopfddmbaaGreatPk1
namespace Go.Proofs.YtkapmfopfddmbaaGreat
open Go.RowKit
set_option linter.unusedVariables false
set_option linter.unusedSimpArgs false

theorem numE_rng {bd why : Int} {s : Ip} (hb : 0 < bd) : 0 ≤ (numE bd why s).1 ∧ (numE bd why s).1 < bd := by
  unfold numE
  split
  · exact ⟨Int.le_refl _, hb⟩
  · split
    · exact ⟨Int.le_refl _, hb⟩
    · split
      · exact ⟨Int.le_refl _, hb⟩
      · exact ⟨by dsimp only; omega, by dsimp only; omega⟩

theorem locE_rng {r n : Int} {s : Ip} : 0 ≤ (locE r n s).1 ∧ (locE r n s).1 < 4611686018427387904 := by
  unfold locE
  split
  · exact ⟨by decide, by decide⟩
  · exact numE_rng (by decide)

theorem locE_err {r n : Int} {s : Ip} (h : s.err ≠ 0) : locE r n s = (0, s) := by
  unfold locE
  rw [numE_err h, if_neg fun hh => h hh.1]

theorem olocE_true {r n : Int} {s : Ip} : olocE true r n s = locE r n s := by
  unfold olocE
  by_cases h : s.err = 0
  · rw [if_pos ⟨rfl, h⟩]
  · rw [if_neg fun hh => h hh.2, locE_err h]

theorem readE_i {op r n : Int} {s x : Ip} (h : (iE op r s).2 = x) (hx : x.err ≠ 0) : readE op r n s = (Mi0, x) := by
  have h5 : xE op r n s = (0, x) := by unfold xE; rw [h, olocE_err hx]
  have h6 : yE op r n s = (0, x) := by unfold yE; rw [h5]; exact olocE_err hx
  have h7 : zE op r n s = x := by unfold zE; rw [h6]; exact twoE_err hx
  unfold readE
  rw [h7, if_pos hx]

theorem Row.put7i {W : World} {p : Nat} {T : TypeId} {z0 z1 z2 z3 z4 z5 z6 : Value} (h : Row W p T #[z0, z1, z2, z3, z4, z5, z6]) (a0 a1 a2 a3 a4 a5 a6 : Value) :
    Row (((((((W.setCell ⟨p, 0, none⟩ a0).setCell ⟨p, 1, none⟩ a1).setCell ⟨p, 2, none⟩ a2).setCell ⟨p, 3, none⟩ a3).setCell ⟨p, 4, none⟩ a4).setCell ⟨p, 5, none⟩ a5).setCell ⟨p, 6, none⟩ a6) p T #[a0, a1, a2, a3, a4, a5, a6] := by
  have q0 : Row _ p T #[a0, z1, z2, z3, z4, z5, z6] := h.put 0 a0
  have q1 : Row _ p T #[a0, a1, z2, z3, z4, z5, z6] := q0.put 1 a1
  have q2 : Row _ p T #[a0, a1, a2, z3, z4, z5, z6] := q1.put 2 a2
  have q3 : Row _ p T #[a0, a1, a2, a3, z4, z5, z6] := q2.put 3 a3
  have q4 : Row _ p T #[a0, a1, a2, a3, a4, z5, z6] := q3.put 4 a4
  have q5 : Row _ p T #[a0, a1, a2, a3, a4, a5, z6] := q4.put 5 a5
  exact q5.put 6 a6

theorem mods7i (W : World) (p : Nat) (a0 a1 a2 a3 a4 a5 a6 : Value) : Mods (Is p) W (((((((W.setCell ⟨p, 0, none⟩ a0).setCell ⟨p, 1, none⟩ a1).setCell ⟨p, 2, none⟩ a2).setCell ⟨p, 3, none⟩ a3).setCell ⟨p, 4, none⟩ a4).setCell ⟨p, 5, none⟩ a5).setCell ⟨p, 6, none⟩ a6) :=
  (((((((Mods.refl _ W).put 0 a0).put 1 a1).put 2 a2).put 3 a3).put 4 a4).put 5 a5).put 6 a6

section
variable {w W W' : World} {B : Nat} {m m' : Mi} {t t' : Ip} {A A' : Option Addr} {c c' : Nat}

end

/-- What the reference's readings of instructions return. -/
def RQM (w : World) (B : Nat) (m : Mi) (t : Ip) (e : Ending) (w' : World) : Prop :=
  ∃ A' c', e = .returned (.tuple #[.agg #[.int .i64 m.op, .int .i64 m.d, .int .i64 m.a, .int .i64 m.b, .int .i64 m.imm, .int .i64 m.dst, .int .i64 m.src], .agg #[.slice A' t.rest.length c', .int .i64 t.err]]) ∧ IpV w' B A' c' t ∧ Below w.heap.size w w'

end Go.Proofs.YtkapmfopfddmbaaGreat
