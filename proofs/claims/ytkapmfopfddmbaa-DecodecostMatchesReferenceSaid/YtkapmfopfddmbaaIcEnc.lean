/-
  The reference of layer 17: Put, PutTerm (texts made by wip/lab/genicenc.py).
-/
import Derived.Test.YtkapmfopfddmbaaPk3
import Derived.Test.YtkapmfopfddmbaaPk1
import Derived.Deep.Cut
import Derived.Deep.CutRange
import Derived.BigRegion
namespace Go.Proofs.Ytkapmfopfddmbaa
open Go.RowKit
set_option linter.unusedVariables false
set_option linter.unusedSimpArgs false

theorem encO_f (v : Int) : encO false v = [] := rfl

theorem encO_t (v : Int) : encO true v = putS v.toNat := rfl

theorem len_enc {l : List Nat} {n : Nat} (h : l.length ≤ n) {b : Bool} {v : Int} : (l ++ encO b v).length ≤ n + 10 := by
  have := putS_le v.toNat
  unfold encO
  split
  · rw [List.length_append]; omega
  · simp; omega

/-- A byte in a block of its own. -/
theorem bl_one (w0 W : World) (hb : Below w0.heap.size w0 W) (x : Nat) : BL w0 (.slice (some ⟨W.heap.size, 0, none⟩) 1 1) [x] (W.alloc (.cells #[.int .u8 (x : Int)] 5)) :=
  ⟨⟨rfl, .inr ⟨W.heap.size, 1, #[.int .u8 (x : Int)], rfl, hb.size, Row.new W _ _, Nat.le_refl _, by unfold maxLen; omega, rfl, rfl⟩⟩, hb.alloc hb.size _⟩

/-- What Put carries: the instruction in its box, the bytes so far. -/
structure EnS (w : World) (m : Mi) (v : Value) (l : List Nat) (W : World) : Prop where
  box : Row W w.heap.size 97 #[.int .i64 m.op, .int .i64 m.d, .int .i64 m.a, .int .i64 m.b, .int .i64 m.imm, .int .i64 m.dst, .int .i64 m.src]
  bl : BL (w.alloc (.cells #[.int .i64 m.op, .int .i64 m.d, .int .i64 m.a, .int .i64 m.b, .int .i64 m.imm, .int .i64 m.dst, .int .i64 m.src] 97)) v l W

structure EtS (w : World) (m : Tm) (v : Value) (l : List Nat) (W : World) : Prop where
  box : Row W w.heap.size 101 #[.int .i64 m.kind, .int .i64 m.a, .int .i64 m.to, .int .i64 m.el]
  bl : BL (w.alloc (.cells #[.int .i64 m.kind, .int .i64 m.a, .int .i64 m.to, .int .i64 m.el] 101)) v l W

theorem EnS.app {w W W' : World} {m : Mi} {v v' : Value} {l l' : List Nat} (h : EnS w m v l W) (hb : BL (w.alloc (.cells #[.int .i64 m.op, .int .i64 m.d, .int .i64 m.a, .int .i64 m.b, .int .i64 m.imm, .int .i64 m.dst, .int .i64 m.src] 97)) v' l' W') : EnS w m v' l' W' :=
  ⟨(Row.new w _ _).below hb.blw (by simp), hb⟩

theorem EtS.app {w W W' : World} {m : Tm} {v v' : Value} {l l' : List Nat} (h : EtS w m v l W) (hb : BL (w.alloc (.cells #[.int .i64 m.kind, .int .i64 m.a, .int .i64 m.to, .int .i64 m.el] 101)) v' l' W') : EtS w m v' l' W' :=
  ⟨(Row.new w _ _).below hb.blw (by simp), hb⟩

/-- Bytes of its own that a call returns. -/
def RB (w : World) (l : List Nat) (e : Ending) (w' : World) : Prop :=
  ∃ A c, e = .returned (.slice A l.length c) ∧ w'.ownsRow w.heap.size 5 1 (.slice A l.length c) l.length (bts l) ∧ Below w.heap.size w w'

theorem RB.of {w0 w W : World} {v : Value} {l : List Nat} (h : BL w0 v l W) (hb : Below w.heap.size w w0) : RB w l (.returned v) W := by
  have hbl := hb.trans (h.blw.mono hb.size)
  have ho := h.own
  rcases ho.2 with ⟨rfl, h0⟩ | ⟨g, cap, cur, rfl, hg, h2⟩
  · refine ⟨none, 0, by rw [h0], ?_, hbl⟩
    rw [h0]
    exact ⟨by rw [ho.1, h0], .inl ⟨rfl, rfl⟩⟩
  · exact ⟨_, cap, rfl, ⟨ho.1, .inr ⟨g, cap, cur, rfl, Nat.le_trans hb.size hg, h2⟩⟩, hbl⟩

end Go.Proofs.Ytkapmfopfddmbaa
