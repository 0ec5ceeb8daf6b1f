/-
  The fixed examples that every statement of layer 1 checks first: they come out true, and nothing that was there turns.
-/
import Derived.Test.YtbedlgpghijndaaVarRget
import Derived.Test.YtbedlgpghijndaaVarRput
import Derived.Test.YtbedlgpghijndaaVarZig
import Derived.Test.YtbedlgpghijndaaVarSame
namespace Go.Proofs.Ytbedlgpghijndaa
open Go.RowKit

theorem lit_sees (w : World) (cs : Array Value) (e : TypeId) (l : List Nat) (h : cs.toList = bts l) : Sees (w.alloc (.cells cs e)) (w.heap.size + 1) (some ⟨w.heap.size, 0, none⟩) (bts l) := fun _ => by
  refine ⟨w.heap.size, 0, rfl, by omega, fun i u hu => ?_⟩
  rw [cell_of_row _ w.heap.size (0 + i) cs e (0, 0) (heap_alloc_new w _), ← hu, ← h, Nat.zero_add]
  simp

/-- Decoding a literal. -/
theorem get_lit (l : List Nat) (v n : Nat) (r : Nat) (n0 n1 : Nat) (cs : Array Value) (w : World) (g : Nat) (hgs : g = w.heap.size) (hl : l.length = n0) (hg : getS l = (v, n, r)) (hc : cs.toList = bts l) (hb : ∀ x ∈ l, x < 256) (hm : l.length ≤ 100) :
    Calls Try.prog 10 #[.slice (some ⟨g, 0, none⟩) n0 n1] (w.alloc (.cells cs 5)) fun e w' => e = .returned (.tuple #[.int .u64 v, .int .i64 n, .int .i64 r]) ∧ w.alloc (.cells cs 5) = w' := by
  subst hl
  subst hgs
  have := get_any (w.heap.size + 1) (some ⟨w.heap.size, 0, none⟩) l n1 (w.alloc (.cells cs 5)) (lit_sees w cs _ l hc) hb (by unfold maxLen; omega)
  rw [hg] at this
  exact this
theorem put_lit (v : Int) (n : Nat) (l : List Nat) (w : World) (h0 : 0 ≤ v) (h1 : v ≤ 18446744073709551615) (hl : putS v.toNat = l) (hn : l.length = n) :
    Calls Try.prog 14 #[.int .u64 v] w fun e w' => ∃ g, e = .returned (.slice (some ⟨g, 0, none⟩) n n) ∧ Sees w' w'.heap.size (some ⟨g, 0, none⟩) (bts l) ∧ Below w.heap.size w w' := by
  subst hl
  subst hn
  exact (put_any v w h0 h1).mono fun e w' ⟨g, he, ho, hb⟩ => ⟨g, he, Sees.of_own ho, hb⟩
theorem same_lit (l : List Nat) (n : Nat) (A A' : Option Addr) (c c' : Nat) (B : Nat) (w : World) (hs : Sees w B A (bts l)) (hs' : Sees w B A' (bts l)) (hn : l.length = n) (hm : l.length ≤ 100) :
    Calls Try.prog 13 #[.slice A n c, .slice A' n c'] w fun e w' => e = .returned (.bool true) ∧ ∃ n, w.drewN n = w' := by
  subst hn
  have := same_any B A A' l l c c' w hs hs' (by unfold maxLen; omega) (by unfold maxLen; omega)
  rw [sameB_self] at this
  exact this
theorem len_lit (v : Int) (n : Nat) (w : World) (h0 : 0 ≤ v) (h1 : v ≤ 18446744073709551615) (hn : lenS v.toNat = n) :
    Calls Try.prog 15 #[.int .u64 v] w fun e w' => e = .returned (.int .i64 n) ∧ w = w' := by
  subst hn
  exact len_any v w h0 h1
theorem zig_lit (n z : Int) (w : World) (h : InI n) (hz : zz n = z) :
    Calls Try.prog 16 #[.int .i64 n] w fun e w' => e = .returned (.int .u64 z) ∧ w = w' := by
  subst hz
  exact zig_any n w h
theorem unzig_lit (u z : Int) (w : World) (h : InU u) (hz : uz u = z) :
    Calls Try.prog 18 #[.int .u64 u] w fun e w' => e = .returned (.int .i64 z) ∧ w = w' := by
  subst hz
  exact unzig_any u w h

set_option maxRecDepth 100000 in
set_option maxHeartbeats 1000000 in
theorem awake_any (w : World) : Calls Try.prog 9 #[] w fun e w' => e = .returned (.bool true) ∧ Below w.heap.size w w' := by
  go_enter Try.func9, Try.ntmps9
  go_wp2_with fail
  refine (get_lit [172, 2, 9] 300 2 0 _ _ _ w _ rfl rfl rfl rfl (by decide) (by decide)).mono ?_
  rintro e w1 ⟨rfl, rfl⟩
  go_wp2_with fail
  refine (get_lit [128, 0] 0 0 3 _ _ _ _ _ (by simp) rfl rfl rfl (by decide) (by decide)).mono ?_
  rintro e w1 ⟨rfl, rfl⟩
  go_wp2_with fail
  refine (get_lit [128] 0 0 1 _ _ _ _ _ (by simp) rfl rfl rfl (by decide) (by decide)).mono ?_
  rintro e w1 ⟨rfl, rfl⟩
  go_wp2_with fail
  refine (put_lit 300 2 [172, 2] _ (by decide) (by decide) rfl rfl).mono ?_
  rintro e w1 ⟨g, rfl, hs, hb⟩
  have hb1 : Below w.heap.size w w1 := ((((Below.refl _ _).alloc (Nat.le_refl _) _).alloc (by simp) _).alloc (by simp; omega) _).trans (hb.mono (by simp; omega))
  clear hb
  go_wp2_with fail
  refine (same_lit [172, 2] 2 _ _ _ _ (w1.heap.size + 1) _ ((hs.alloc (Nat.le_refl _) _).more (by omega)) (lit_sees _ _ _ _ rfl) rfl (by decide)).mono ?_
  rintro e w2 ⟨rfl, n, rfl⟩
  clear hs
  go_wp2_with fail
  refine (len_lit 300 2 _ (by decide) (by decide) rfl).mono ?_
  rintro e w2 ⟨rfl, rfl⟩
  go_wp2_with fail
  refine (zig_lit (-1) 1 _ (by unfold InI; decide) rfl).mono ?_
  rintro e w2 ⟨rfl, rfl⟩
  go_wp2_with fail
  refine (zig_lit 1 2 _ (by unfold InI; decide) rfl).mono ?_
  rintro e w2 ⟨rfl, rfl⟩
  go_wp2_with fail
  refine (unzig_lit 1 (-1) _ (by unfold InU; decide) rfl).mono ?_
  rintro e w2 ⟨rfl, rfl⟩
  go_wp2_with fail
  go_ret
  exact ⟨rfl, blw_drewN (hb1.alloc hb1.size _) n⟩

end Go.Proofs.Ytbedlgpghijndaa
