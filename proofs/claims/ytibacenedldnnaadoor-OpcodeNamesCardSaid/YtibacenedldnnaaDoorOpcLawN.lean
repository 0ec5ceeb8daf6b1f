/-
  The walk of the statement on names of layer 5.
-/
import Derived.Test.YtibacenedldnnaaDoorOpcAwake
namespace Go.Proofs.YtibacenedldnnaaDoor
open Go.RowKit

theorem find_s (s : ByteArray) (n : Nat) (w : World) (hn : fnd s.data.toList = n) (ht : Tab w) :
    Calls Tryd.prog 14 #[.string s] w fun e w' => e = .returned (.int .i64 n) ∧ w = w' := by
  subst hn; exact find_any s w ht

theorem bne_of {a b : Int} {c : Bool} (h : (a == b) = c) : (a != b) = !c := by rw [bne, h]
theorem nm_inj : ∀ j < 19, ∀ k < 19, nm j = nm k → j = k := by decide
theorem nameB_empty {op : Int} (h : (nameB op).toList.isEmpty = false) : 1 ≤ op ∧ op ≤ 18 := by
  by_cases h2 : 1 ≤ op ∧ op ≤ 18
  · exact h2
  · rw [nameB_out h2, ByteArray.toList_eq] at h
    simp at h
theorem fnd_name {op : Int} (h : 1 ≤ op ∧ op ≤ 18) : (fnd (nameB op).data.toList : Int) = op := by
  rw [nameB_in h, nmB_data, fnd_nm (by omega)]
  omega
theorem names_ne {a b : Int} (h1 : (nameB a).toList.isEmpty = false) (h2 : ((nameB a).toList == (nameB b).toList) = true) (h3 : (a == b) = false) : False := by
  have ra := nameB_empty h1
  have e := eq_of_beq h2
  have rb := nameB_empty (op := b) (by rw [← e]; exact h1)
  rw [nameB_in ra, nameB_in rb, nmB_list, nmB_list] at e
  have := nm_inj _ (by omega) _ (by omega) e
  exact (beq_eq_false_iff_ne.1 h3) (by omega)
/-- What the number that is found for a string tells. -/
theorem found (s : ByteArray) : ∃ n : Nat, fnd s.data.toList = n ∧ n < 19 ∧ (n ≠ 0 → ((nameB n).toList == s.toList) = true) := by
  refine ⟨_, rfl, fnd_lt _, fun h0 => ?_⟩
  rcases fnd_cases s.data.toList with ⟨h1, h2⟩ | h
  · rw [nameB_in (by omega), nmB_list, ByteArray.toList_eq, show (((fnd s.data.toList : Nat) : Int)).toNat = fnd s.data.toList by omega, h2]
    exact beq_self_eq_true _
  · exact absurd h h0

set_option maxRecDepth 100000 in
set_option maxHeartbeats 1000000 in
theorem OpcodeNames_walk (a0 a1 : Int) (a2 : ByteArray) (w : World) (_ : (Lit.int .i64 a0).wf = true) (_ : (Lit.int .i64 a1).wf = true) (w2 : a2.size ≤ maxLen) (ht : Tab w) :
    Calls Tryd.prog 4 #[.int .i64 a0, .int .i64 a1, .string a2] w fun e w' => e = .returned (.bool true) ∧ Below w.heap.size w w' := by
  unfold maxLen at w2
  by_cases hlen : (1000 : Int) < a2.size
  · go_enter Tryd.func4, Tryd.ntmps4
    go_wp2_with fail
    refine (awake_any _ ht).mono ?_
    rintro e W ⟨rfl, hst⟩
    go_wp2_with fail
    refine (awake_any _ hst.tab).mono ?_
    rintro e W2 ⟨rfl, hst2⟩
    replace hst := hst.next hst2.below
    go_wp2_with fail
    go_ret
    exact ⟨rfl, hst.below⟩
  obtain ⟨A, hA⟩ : ∃ A, nameB a0 = A := ⟨_, rfl⟩
  obtain ⟨B, hB⟩ : ∃ B, nameB a1 = B := ⟨_, rfl⟩
  obtain ⟨n, hn, hn19, hnn⟩ := found a2
  have hF : A.toList.isEmpty = false → (fnd A.data.toList : Int) = a0 := fun h => by subst hA; exact fnd_name (nameB_empty h)
  have hX : A.toList.isEmpty = false → (A.toList == B.toList) = true → (a0 == a1) = false → False := by subst hA; subst hB; exact names_ne
  have HA := Lib.hid hA; have HB := Lib.hid hB; have HN := Lib.hid hn; have HNN := Lib.hid hnn; have HF := Lib.hid hF; have HX := Lib.hid hX
  clear hA hB hn hnn hF hX
  rcases hz : A.toList.isEmpty with _ | _
  · have e1 := HF.out hz
    obtain ⟨m, hm⟩ : ∃ m : Nat, fnd A.data.toList = m := ⟨_, rfl⟩
    rw [hm] at e1
    subst e1
    have HM := Lib.hid hm
    clear hm HF
    rcases hab : (A.toList == B.toList) with _ | _ <;> rcases hc : ((m : Int) == a1) with _ | _ <;> first | exact (HX.out hz hab hc).elim | skip
    all_goals (
      clear HX
      have hc2 := bne_of hc
      simp only [Bool.not_true, Bool.not_false] at hc2
      by_cases h0 : n = 0
      · subst h0
        clear HNN
        go_enter Tryd.func4, Tryd.ntmps4
        go_wp2_with fail
        refine (awake_any _ ht).mono ?_
        rintro e W ⟨rfl, hst⟩
        go_wp2_with fail
        refine (name_at _ A _ HA.out hst.tab).mono ?_
        rintro e w' ⟨rfl, rfl⟩
        go_wp2_with fail
        refine (name_at _ B _ HB.out hst.tab).mono ?_
        rintro e w' ⟨rfl, rfl⟩
        go_wp2_with fail
        refine (find_s A m _ HM.out hst.tab).mono ?_
        rintro e w' ⟨rfl, rfl⟩
        go_wp2_with fail
        refine (find_s a2 0 _ HN.out hst.tab).mono ?_
        rintro e w' ⟨rfl, rfl⟩
        go_wp2_with fail
        go_ret
        exact ⟨rfl, hst.below⟩
      · have hq := HNN.out h0
        obtain ⟨C, hC⟩ : ∃ C, nameB n = C := ⟨_, rfl⟩
        rw [hC] at hq
        have HC := Lib.hid hC
        have hne : ((n : Int) == 0) = false := beq_eq_false_iff_ne.2 (by omega)
        clear HNN hC h0
        go_enter Tryd.func4, Tryd.ntmps4
        go_wp2_with fail
        refine (awake_any _ ht).mono ?_
        rintro e W ⟨rfl, hst⟩
        go_wp2_with fail
        refine (name_at _ A _ HA.out hst.tab).mono ?_
        rintro e w' ⟨rfl, rfl⟩
        go_wp2_with fail
        refine (name_at _ B _ HB.out hst.tab).mono ?_
        rintro e w' ⟨rfl, rfl⟩
        go_wp2_with fail
        refine (find_s A m _ HM.out hst.tab).mono ?_
        rintro e w' ⟨rfl, rfl⟩
        go_wp2_with fail
        refine (find_s a2 n _ HN.out hst.tab).mono ?_
        rintro e w' ⟨rfl, rfl⟩
        go_wp2_with fail
        refine (name_at n C _ HC.out hst.tab).mono ?_
        rintro e w' ⟨rfl, rfl⟩
        go_wp2_with fail
        go_ret
        exact ⟨rfl, hst.below⟩)
  · clear HF HX
    rcases hab : (A.toList == B.toList) with _ | _ <;> rcases hc : (a0 == a1) with _ | _
    all_goals (
      have hc2 := bne_of hc
      simp only [Bool.not_true, Bool.not_false] at hc2
      by_cases h0 : n = 0
      · subst h0
        clear HNN
        go_enter Tryd.func4, Tryd.ntmps4
        go_wp2_with fail
        refine (awake_any _ ht).mono ?_
        rintro e W ⟨rfl, hst⟩
        go_wp2_with fail
        refine (name_at _ A _ HA.out hst.tab).mono ?_
        rintro e w' ⟨rfl, rfl⟩
        go_wp2_with fail
        refine (name_at _ B _ HB.out hst.tab).mono ?_
        rintro e w' ⟨rfl, rfl⟩
        go_wp2_with fail
        refine (find_s a2 0 _ HN.out hst.tab).mono ?_
        rintro e w' ⟨rfl, rfl⟩
        go_wp2_with fail
        go_ret
        exact ⟨rfl, hst.below⟩
      · have hq := HNN.out h0
        obtain ⟨C, hC⟩ : ∃ C, nameB n = C := ⟨_, rfl⟩
        rw [hC] at hq
        have HC := Lib.hid hC
        have hne : ((n : Int) == 0) = false := beq_eq_false_iff_ne.2 (by omega)
        clear HNN hC h0
        go_enter Tryd.func4, Tryd.ntmps4
        go_wp2_with fail
        refine (awake_any _ ht).mono ?_
        rintro e W ⟨rfl, hst⟩
        go_wp2_with fail
        refine (name_at _ A _ HA.out hst.tab).mono ?_
        rintro e w' ⟨rfl, rfl⟩
        go_wp2_with fail
        refine (name_at _ B _ HB.out hst.tab).mono ?_
        rintro e w' ⟨rfl, rfl⟩
        go_wp2_with fail
        refine (find_s a2 n _ HN.out hst.tab).mono ?_
        rintro e w' ⟨rfl, rfl⟩
        go_wp2_with fail
        refine (name_at n C _ HC.out hst.tab).mono ?_
        rintro e w' ⟨rfl, rfl⟩
        go_wp2_with fail
        go_ret
        exact ⟨rfl, hst.below⟩)

end Go.Proofs.YtibacenedldnnaaDoor
