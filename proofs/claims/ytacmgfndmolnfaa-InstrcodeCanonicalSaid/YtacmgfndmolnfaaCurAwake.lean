/-
  The fixed examples that every statement of layer 2 checks first: they come out true, and nothing that was there turns.
-/
import Derived.Test.YtacmgfndmolnfaaWri
import Derived.Test.YtacmgfndmolnfaaVarSame
namespace Go.Proofs.Ytacmgfndmolnfaa
open Go.RowKit
set_option linter.unusedVariables false

theorem lit_sees (w : World) (cs : Array Value) (e : TypeId) (l : List Nat) (h : cs.toList = bts l) : Sees (w.alloc (.cells cs e)) (w.heap.size + 1) (some ⟨w.heap.size, 0, none⟩) (bts l) := fun _ => by
  refine ⟨w.heap.size, 0, rfl, by omega, fun i u hu => ?_⟩
  rw [cell_of_row _ w.heap.size (0 + i) cs e (0, 0) (heap_alloc_new w _), ← hu, ← h, Nat.zero_add]
  simp
theorem below_mods {B : Nat} {S : Nat → Prop} {w a b : World} (h : Below B w a) (m : Mods S a b) (hS : ∀ k, S k → B ≤ k) (hB : B ≤ w.heap.size) : Below B w b :=
  h.trans (m.below (Nat.le_trans hB h.size) hS)
theorem same_lit (l : List Nat) (n : Nat) (A A' : Option Addr) (c c' : Nat) (B : Nat) (w : World) (hs : Sees w B A (bts l)) (hs' : Sees w B A' (bts l)) (hn : l.length = n) (hm : l.length ≤ 100) :
    Calls Try.prog 25 #[.slice A n c, .slice A' n c'] w fun e w' => e = .returned (.bool true) ∧ ∃ n, w.drewN n = w' := by
  subst hn
  have := same_any B A A' l l c c' w hs hs' (by unfold maxLen; omega) (by unfold maxLen; omega)
  rw [sameB_self] at this
  exact this

/-- New over a literal. -/
theorem new_lit (l : List Nat) (n0 n1 : Nat) (cs : Array Value) (w : World) (g : Nat) (hgs : g = w.heap.size) (hl : l.length = n0) (hc : cs.toList = bts l) (hb : ∀ x ∈ l, x < 256) (hm : l.length ≤ 100) :
    Calls Try.prog 8 #[.slice (some ⟨g, 0, none⟩) n0 n1] (w.alloc (.cells cs 5)) fun e w' => ∃ p A' c', e = .returned (.pointer (some ⟨p, 0, none⟩)) ∧ w.heap.size < p ∧ Cur w' (w.heap.size + 1) p l 0 0 A' c' ∧ Mods No w w' := by
  subst hl
  subst hgs
  refine (new_any (some ⟨w.heap.size, 0, none⟩) l (w.heap.size + 1) n1 (w.alloc (.cells cs 5)) (lit_sees w cs _ l hc) (by simp) hb (by omega)).mono ?_
  rintro e w' ⟨p, A', c', rfl, h1, h2, h3⟩
  simp only [World.size_alloc] at h1 h2
  exact ⟨p, A', c', rfl, by omega, h2, ((Mods.refl No w).alloc _).trans (Mods.of_below h3)⟩

set_option maxRecDepth 100000 in
set_option maxHeartbeats 400000 in
theorem byte_nil (w : World) :
    Calls Try.prog 33 #[.pointer none] w fun e w' => e = .returned (.int .u8 0) ∧ w = w' := by
  have hr : Calls Try.prog 65 #[.pointer none, .func (.func 66) #[] #[]] w fun e w' => e = .returned (.int .u64 0) ∧ w = w' := by
    go_enter Try.func65, Try.ntmps65
    go_wp2_with fail
    refine (err_nil w).mono ?_
    rintro e W ⟨rfl, rfl⟩
    go_wp2
    go_ret
    exact ⟨rfl, rfl⟩
  have HR := Lib.hid hr
  clear hr
  go_enter Try.func33, Try.ntmps33
  go_wp2_with fail
  refine HR.out.mono ?_
  rintro e W ⟨rfl, rfl⟩
  go_wp2
  go_ret
  exact ⟨rfl, rfl⟩

end Go.Proofs.Ytacmgfndmolnfaa
