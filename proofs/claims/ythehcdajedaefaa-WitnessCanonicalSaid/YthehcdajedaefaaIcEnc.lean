/-
  The reference of layer 17: Put, PutTerm (texts made by wip/lab/genicenc.py).
-/
import Derived.Test.YthehcdajedaefaaPk3
import Derived.Test.YthehcdajedaefaaPk1
import Derived.Deep.Cut
import Derived.Deep.CutRange
import Derived.BigRegion
namespace Go.Proofs.Ythehcdajedaefaa
open Go.RowKit
set_option linter.unusedVariables false
set_option linter.unusedSimpArgs false

theorem encO_f (v : Int) : encO false v = [] := rfl

theorem encO_t (v : Int) : encO true v = putS v.toNat := rfl

theorem len_enc {l : List Nat} {n : Nat} (h : l.length ≤ n) {b : Bool} {v : Int} : (l ++ encO b v).length ≤ n + 10 := by
  have := putS_le v.toNat
  unfold encO
  split
  · rw [List.length_append]; omega
  · simp; omega

/-- A byte in a block of its own. -/
theorem bl_one (w0 W : World) (hb : Below w0.heap.size w0 W) (x : Nat) : BL w0 (.slice (some ⟨W.heap.size, 0, none⟩) 1 1) [x] (W.alloc (.cells #[.int .u8 (x : Int)] 5)) :=
  ⟨⟨rfl, .inr ⟨W.heap.size, 1, #[.int .u8 (x : Int)], rfl, hb.size, Row.new W _ _, Nat.le_refl _, by unfold maxLen; omega, rfl, rfl⟩⟩, hb.alloc hb.size _⟩

/-- Bytes of its own that a call returns. -/
def RB (w : World) (l : List Nat) (e : Ending) (w' : World) : Prop :=
  ∃ A c, e = .returned (.slice A l.length c) ∧ w'.ownsRow w.heap.size 5 1 (.slice A l.length c) l.length (bts l) ∧ Below w.heap.size w w'

theorem RB.of {w0 w W : World} {v : Value} {l : List Nat} (h : BL w0 v l W) (hb : Below w.heap.size w w0) : RB w l (.returned v) W := by
  have hbl := hb.trans (h.blw.mono hb.size)
  have ho := h.own
  rcases ho.2 with ⟨rfl, h0⟩ | ⟨g, cap, cur, rfl, hg, h2⟩
  · refine ⟨none, 0, by rw [h0], ?_, hbl⟩
    rw [h0]
    exact ⟨by rw [ho.1, h0], .inl ⟨rfl, rfl⟩⟩
  · exact ⟨_, cap, rfl, ⟨ho.1, .inr ⟨g, cap, cur, rfl, Nat.le_trans hb.size hg, h2⟩⟩, hbl⟩

end Go.Proofs.Ythehcdajedaefaa
