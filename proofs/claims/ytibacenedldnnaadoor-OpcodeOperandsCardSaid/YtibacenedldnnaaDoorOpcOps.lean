/-
  The program's Operands; the reference's Name.
-/
import Derived.Test.YtibacenedldnnaaDoorOpcOf
namespace Go.Proofs.YtibacenedldnnaaDoor
open Go.RowKit

/-- How many of the fields A and B a number uses. -/
def opn (op : Int) : Nat := (if uA op then 1 else 0) + (if uB op then 1 else 0)

set_option maxRecDepth 100000 in
set_option maxHeartbeats 1000000 in
theorem operands_any (op : Int) (w : World) :
    Calls Tryd.prog 18 #[.int .i64 op] w fun e w' => e = .returned (.int .i64 (opn op)) ∧ Below w.heap.size w w' := by
  obtain ⟨d, hd⟩ : ∃ d, uD op = d := ⟨_, rfl⟩
  obtain ⟨i, hi⟩ : ∃ i, uI op = i := ⟨_, rfl⟩
  obtain ⟨o, ho⟩ : ∃ o, uO op = o := ⟨_, rfl⟩
  have HD := Lib.hid hd; have HI := Lib.hid hi; have HO := Lib.hid ho
  clear hd hi ho
  rcases hA : uA op with _ | _ <;> rcases hB : uB op with _ | _ <;> (
    have hn : opn op = (if uA op then 1 else 0) + (if uB op then 1 else 0) := rfl
    rw [hA, hB] at hn
    simp at hn
    rw [hn]
    have HA := Lib.hid hA; have HB := Lib.hid hB
    clear hA hB hn
    go_enter Tryd.func18, Tryd.ntmps18
    go_wp2_with (go_at_call 7; refine (of_at op _ _ _ _ _ _ HD.out HA.out HB.out HI.out HO.out).mono ?_; rintro e w' ⟨rfl, hb⟩)
    go_ret
    exact ⟨rfl, hb.trans ((Below.refl _ _).alloc hb.size _)⟩)

set_option maxRecDepth 100000 in
set_option maxHeartbeats 1000000 in
theorem rname_any (op : Int) (w : World) :
    Calls Tryd.prog 13 #[.int .i64 op] w fun e w' => e = .returned (.string (nameB op)) ∧ Below w.heap.size w w' := by
  rcases ways op with h | h | ⟨k, h1, h2, rfl⟩
  · rw [nameB_out (by omega)]
    go_enter Tryd.func13, Tryd.ntmps13
    go_wp2
    go_ret
    exact ⟨rfl, (Below.refl _ _).alloc (Nat.le_refl _) _⟩
  · rw [nameB_out (by omega)]
    go_enter Tryd.func13, Tryd.ntmps13
    go_wp2
    go_ret
    exact ⟨rfl, (Below.refl _ _).alloc (Nat.le_refl _) _⟩
  · rw [nameB_in (by omega), show ((k : Int)).toNat = k by omega]
    have hc := tabL_get (i := k) (by omega)
    simp only [tabL, nmL, List.map_cons, List.map_nil] at hc
    go_enter Tryd.func13, Tryd.ntmps13
    go_wp2
    go_ret
    exact ⟨rfl, (Below.refl _ _).alloc (Nat.le_refl _) _⟩

end Go.Proofs.YtibacenedldnnaaDoor
