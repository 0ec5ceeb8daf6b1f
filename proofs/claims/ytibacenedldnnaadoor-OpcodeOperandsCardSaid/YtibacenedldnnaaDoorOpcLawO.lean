/-
  The walk of the statement on operands of layer 5.
-/
import Derived.Test.YtibacenedldnnaaDoorOpcAwake
namespace Go.Proofs.YtibacenedldnnaaDoor
open Go.RowKit

/-- The six shapes. -/
theorem shapes (op : Int) : ∃ d a b i o n, uD op = d ∧ uA op = a ∧ uB op = b ∧ uI op = i ∧ uO op = o ∧ opn op = n ∧
    ((d, a, b, i, o, n) = (false, false, false, false, false, 0) ∨ (d, a, b, i, o, n) = (true, false, false, true, true, 0) ∨ (d, a, b, i, o, n) = (true, true, false, false, true, 1) ∨
      (d, a, b, i, o, n) = (true, true, true, false, true, 2) ∨ (d, a, b, i, o, n) = (false, true, false, false, true, 1) ∨ (d, a, b, i, o, n) = (false, false, false, false, true, 0)) := by
  rcases ways18 op with h | h | h | h | h | h | h | h | h | h | h | h | h | h | h | h | h | h | h
  · exact ⟨_, _, _, _, _, _, out_D h, out_A h, out_B h, out_I h, h, by rw [opn, out_A h, out_B h]; rfl, .inl rfl⟩
  · subst h; exact ⟨_, _, _, _, _, _, rfl, rfl, rfl, rfl, rfl, rfl, .inr (.inl rfl)⟩
  · subst h; exact ⟨_, _, _, _, _, _, rfl, rfl, rfl, rfl, rfl, rfl, .inr (.inr (.inl rfl))⟩
  · subst h; exact ⟨_, _, _, _, _, _, rfl, rfl, rfl, rfl, rfl, rfl, .inr (.inr (.inl rfl))⟩
  · subst h; exact ⟨_, _, _, _, _, _, rfl, rfl, rfl, rfl, rfl, rfl, .inr (.inr (.inl rfl))⟩
  · subst h; exact ⟨_, _, _, _, _, _, rfl, rfl, rfl, rfl, rfl, rfl, .inr (.inr (.inr (.inl rfl)))⟩
  · subst h; exact ⟨_, _, _, _, _, _, rfl, rfl, rfl, rfl, rfl, rfl, .inr (.inr (.inr (.inl rfl)))⟩
  · subst h; exact ⟨_, _, _, _, _, _, rfl, rfl, rfl, rfl, rfl, rfl, .inr (.inr (.inr (.inl rfl)))⟩
  · subst h; exact ⟨_, _, _, _, _, _, rfl, rfl, rfl, rfl, rfl, rfl, .inr (.inr (.inr (.inl rfl)))⟩
  · subst h; exact ⟨_, _, _, _, _, _, rfl, rfl, rfl, rfl, rfl, rfl, .inr (.inr (.inr (.inl rfl)))⟩
  · subst h; exact ⟨_, _, _, _, _, _, rfl, rfl, rfl, rfl, rfl, rfl, .inr (.inr (.inr (.inl rfl)))⟩
  · subst h; exact ⟨_, _, _, _, _, _, rfl, rfl, rfl, rfl, rfl, rfl, .inr (.inr (.inr (.inl rfl)))⟩
  · subst h; exact ⟨_, _, _, _, _, _, rfl, rfl, rfl, rfl, rfl, rfl, .inr (.inr (.inr (.inl rfl)))⟩
  · subst h; exact ⟨_, _, _, _, _, _, rfl, rfl, rfl, rfl, rfl, rfl, .inr (.inr (.inr (.inl rfl)))⟩
  · subst h; exact ⟨_, _, _, _, _, _, rfl, rfl, rfl, rfl, rfl, rfl, .inr (.inr (.inr (.inl rfl)))⟩
  · subst h; exact ⟨_, _, _, _, _, _, rfl, rfl, rfl, rfl, rfl, rfl, .inr (.inr (.inr (.inl rfl)))⟩
  · subst h; exact ⟨_, _, _, _, _, _, rfl, rfl, rfl, rfl, rfl, rfl, .inr (.inr (.inr (.inl rfl)))⟩
  · subst h; exact ⟨_, _, _, _, _, _, rfl, rfl, rfl, rfl, rfl, rfl, .inr (.inr (.inr (.inr (.inl rfl))))⟩
  · subst h; exact ⟨_, _, _, _, _, _, rfl, rfl, rfl, rfl, rfl, rfl, .inr (.inr (.inr (.inr (.inr rfl))))⟩

theorem operands_at (op : Int) (n : Nat) (w : World) (hn : opn op = n) :
    Calls Tryd.prog 18 #[.int .i64 op] w fun e w' => e = .returned (.int .i64 n) ∧ Below w.heap.size w w' := by
  subst hn; exact operands_any op w

set_option maxRecDepth 100000 in
set_option maxHeartbeats 1000000 in
theorem OpcodeOperands_walk (a0 : Int) (w : World) (_ : (Lit.int .i64 a0).wf = true) (ht : Tab w) :
    Calls Tryd.prog 5 #[.int .i64 a0] w fun e w' => e = .returned (.bool true) ∧ Below w.heap.size w w' := by
  obtain ⟨d, a, b, i, o, n, hd, ha, hb, hi, ho, hn, hc⟩ := shapes a0
  have HD := Lib.hid hd; have HA := Lib.hid ha; have HB := Lib.hid hb; have HI := Lib.hid hi; have HO := Lib.hid ho; have HN := Lib.hid hn
  clear hd ha hb hi ho hn
  rcases hc with hc | hc | hc | hc | hc | hc <;> (
    simp only [Prod.mk.injEq] at hc
    obtain ⟨rfl, rfl, rfl, rfl, rfl, rfl⟩ := hc
    go_enter Tryd.func5, Tryd.ntmps5
    go_wp2_with fail
    refine (awake_any _ ht).mono ?_
    rintro e W ⟨rfl, hst⟩
    go_wp2_with fail
    refine (of_at a0 _ _ _ _ _ _ HD.out HA.out HB.out HI.out HO.out).mono ?_
    rintro e w1 ⟨rfl, hb⟩
    replace hst := hst.next hb; clear hb
    go_wp2_with fail
    refine (operands_at a0 _ _ HN.out).mono ?_
    rintro e w2 ⟨rfl, hb⟩
    obtain ⟨k0, k1, k2, k3⟩ := kept4 hb
    replace hst := (hst.alloc _).next hb; clear hb
    go_wp2_with fail
    go_ret
    exact ⟨rfl, hst.below⟩)

end Go.Proofs.YtibacenedldnnaaDoor
