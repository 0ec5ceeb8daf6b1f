/-
  Find: the program's, over its table; the reference's.
-/
import Derived.Test.YtibacenedldnnaaDoorOpcOps
namespace Go.Proofs.YtibacenedldnnaaDoor
open Go.RowKit

theorem idx_tab (k : Nat) (hk : k < 19) (w : World) : (Instr.index 33 (.agg tabA) (.int .i64 k)).run Tryd.prog w = .ok (.string (nmB k)) w := by
  have h1 : (0 : Int) ≤ k ∧ (k : Int) < ((19 : Nat) : Int) := by omega
  have h2 := tabA_get hk
  obtain ⟨T, hT⟩ : ∃ T, T = tabA := ⟨_, rfl⟩
  rw [← hT] at h2 ⊢
  clear hT
  simp [Instr.index, run_underlying Tryd.underlying33, asIntOf, h1, h2, go_sem]
  intro h
  omega

/-- No name before k is the string. -/
def Before (s : ByteArray) (k : Nat) : Prop := ∀ j, j < k → nm j ≠ s.data.toList
theorem Before.zero (s : ByteArray) : Before s 0 := fun j h => by omega
theorem Before.next {s : ByteArray} {k : Nat} (h : Before s k) (h2 : ((nmB k).toList == s.toList) = false) : Before s (k + 1) := fun j hj => by
  by_cases e : j = k
  · subst e
    intro e2
    rw [nmB_list, ByteArray.toList_eq, e2] at h2
    simp at h2
  · exact h j (by omega)
theorem Before.none {s : ByteArray} (h : Before s 19) : fnd s.data.toList = 0 := fnd_miss h
theorem at_hit {s : ByteArray} {k : Nat} (hk : k < 19) (h : ((nmB k).toList == s.toList) = true) : fnd s.data.toList = k := by
  apply fnd_hit hk
  have := eq_of_beq h
  rwa [nmB_list, ByteArray.toList_eq] at this

set_option maxRecDepth 100000 in
set_option maxHeartbeats 1000000 in
theorem find_any (s : ByteArray) (w : World) (ht : Tab w) :
    Calls Tryd.prog 14 #[.string s] w fun e w' => e = .returned (.int .i64 (fnd s.data.toList)) ∧ w = w' := by
  obtain ⟨tt, fr, hg⟩ := ht
  go_enter Tryd.func14, Tryd.ntmps14
  go_wp2_with (refine wpList_load_row rfl 33 _ rfl 0 rfl tt _ fr _ hg Tryd.underlying33 rfl (by kernel_rfl) ?_)
  go_loop [6] (fun i => ∃ k : Nat, k ≤ 19 ∧ i = .int .i64 k ∧ Hid (Before s k)) (fun i => 19 - (intOf i).toNat)
  case atStart => exact ⟨0, by omega, rfl, Before.zero s⟩
  case round =>
    obtain ⟨k, hk, rfl, hbef⟩ := hrel
    by_cases h19 : k = 19
    · subst h19
      have HN := Lib.hid hbef.out.none
      go_wp2
      go_ret
      exact ⟨by rw [HN.out]; rfl, rfl⟩
    · have hlt : k < 19 := by omega
      have hidx := idx_tab k hlt
      cases hq : ((nmB k).toList == s.toList)
      · have HN := Lib.hid (hbef.out.next hq)
        clear hk h19
        go_wp2
        go_round
        case rel => exact ⟨k + 1, by omega, by go_num, HN.out⟩
        case measure => simp [intOf]; omega
      · have HN := Lib.hid (at_hit hlt hq)
        clear hk h19
        go_wp2
        go_ret
        exact ⟨by rw [HN.out]; rfl, rfl⟩

/-- No name from 1 on before k is the string. -/
def Before1 (s : ByteArray) (k : Nat) : Prop := ∀ j, 1 ≤ j → j < k → nm j ≠ s.data.toList
theorem Before1.one (s : ByteArray) : Before1 s 1 := fun j h1 h => by omega
theorem Before1.next {s : ByteArray} {k : Nat} (h : Before1 s k) (h2 : ((nmB k).toList == s.toList) = false) : Before1 s (k + 1) := fun j h1 hj => by
  by_cases e : j = k
  · subst e
    intro e2
    rw [nmB_list, ByteArray.toList_eq, e2] at h2
    simp at h2
  · exact h j h1 (by omega)
theorem Before1.none {s : ByteArray} (h : Before1 s 19) : fnd s.data.toList = 0 := by
  rcases fnd_cases s.data.toList with ⟨h1, h2⟩ | h0
  · by_cases h3 : 1 ≤ fnd s.data.toList
    · exact absurd h2 (h _ h3 h1)
    · omega
  · exact h0
theorem rname_at (k : Nat) (w : World) (h : 1 ≤ k ∧ k < 19) :
    Calls Tryd.prog 13 #[.int .i64 k] w fun e w' => e = .returned (.string (nmB k)) ∧ Below w.heap.size w w' := by
  have := rname_any k w
  rwa [nameB_in (by omega), show ((k : Int)).toNat = k by omega] at this

set_option maxRecDepth 100000 in
set_option maxHeartbeats 1000000 in
theorem rfind_any (s : ByteArray) (w : World) :
    Calls Tryd.prog 15 #[.string s] w fun e w' => e = .returned (.int .i64 (fnd s.data.toList)) ∧ Below w.heap.size w w' := by
  go_enter Tryd.func15, Tryd.ntmps15
  go_wp2
  go_loopw [3] (fun i w' => ∃ k : Nat, 1 ≤ k ∧ k ≤ 19 ∧ i = .int .i64 k ∧ Hid (Before1 s k) ∧ Below w.heap.size w w') (fun i _ => 19 - (intOf i).toNat)
  case atStart => exact ⟨1, by omega, by omega, rfl, Before1.one s, Below.refl _ _⟩
  case round =>
    obtain ⟨k, hk1, hk, rfl, hbef, hbel⟩ := hrel
    by_cases h19 : k = 19
    · subst h19
      have HN := Lib.hid hbef.out.none
      go_wp2
      go_ret
      exact ⟨by rw [HN.out]; rfl, hbel⟩
    · have hlt : k < 19 := by omega
      cases hq : ((nmB k).toList == s.toList)
      · have HN := Lib.hid (hbef.out.next hq)
        clear hk h19
        go_wp2_with (go_at_call 13; refine (rname_at k _ ⟨hk1, hlt⟩).mono ?_; rintro e w' ⟨rfl, hb⟩)
        go_roundw
        case rel => exact ⟨k + 1, by omega, by omega, by go_num, HN.out, hbel.trans (hb.mono hbel.size)⟩
        case measure => simp [intOf]; omega
      · have HN := Lib.hid (at_hit hlt hq)
        clear hk h19
        go_wp2_with (go_at_call 13; refine (rname_at k _ ⟨hk1, hlt⟩).mono ?_; rintro e w' ⟨rfl, hb⟩)
        go_ret
        exact ⟨by rw [HN.out]; rfl, hbel.trans (hb.mono hbel.size)⟩

end Go.Proofs.YtibacenedldnnaaDoor
