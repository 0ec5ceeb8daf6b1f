/-
  The program of layer 17: PutInstr, PutMach, PutTerm (made by wip/lab/genicprog.py).
-/
import Derived.Test.YthehcdajedaefaaPk6
namespace Go.Proofs.Ythehcdajedaefaa
open Go.RowKit
set_option linter.unusedVariables false
set_option linter.unusedSimpArgs false

/-- What the writing functions carry. -/
structure GPS (w : World) (q : Nat) (l : List Nat) (W : World) : Prop where
  md : Mods (From q) w W
  wr : ∃ v, Wri W q W.heap.size v l
  kp : Keep w W

section
variable {w W W' : World} {q : Nat} {l l' : List Nat}

theorem GPS.next (h : GPS w q l W) (hw : ∃ v, Wri W' q W'.heap.size v l') (hm : Mods (From q) W W') (hk : Keep W W') : GPS w q l' W' := ⟨h.md.trans hm, hw, h.kp.trans hk⟩

theorem GPS.below (h : GPS w q l W) (hb : Below W.heap.size W W') : GPS w q l W' := by
  obtain ⟨v, hv⟩ := h.wr
  exact ⟨h.md.trans (Mods.of_below hb), ⟨v, (hv.mods (S := No) (Mods.of_below hb) fun _ hk => hk.elim).more hb.size⟩, h.kp.trans (Keep.below hb)⟩

theorem GPS.new {hi : Nat} {v : Value} (h : Wri w q hi v l) (hhi : hi ≤ w.heap.size) : GPS w q l w := ⟨Mods.refl _ _, ⟨v, h.more hhi⟩, Keep.refl _⟩

theorem GPS.done (h : GPS w q l W) (e : l = l') : WroteK w q l' (.returned (.tuple #[])) W := by
  subst e
  exact ⟨⟨rfl, h.wr, h.md⟩, h.kp⟩

end

theorem encO_le (b : Bool) (v : Int) : (encO b v).length ≤ 10 := by
  unfold encO
  split
  · have := putS_le v.toNat
    unfold lenS at this
    exact this
  · exact Nat.zero_le _

theorem u64_id {x : Int} (h : 0 ≤ x ∧ x ≤ 9223372036854775807) : IntKind.u64.wrap x = x := by
  rw [IntKind.wrap_u64]
  omega

theorem uI_eq (op : Int) : uI op = (op == 1) := by unfold uI; rw [Bool.eq_iff_iff]; simp

section
variable {w : World} {q hi : Nat} {v : Value} {l : List Nat}

end

end Go.Proofs.Ythehcdajedaefaa
