/-
  A block and its own instructions, one of them exchanged.
-/
import Derived.Test.YtimmnnadoeagfaaAlCrr
namespace Go.Proofs.Ytimmnnadoeagfaa
open Go.RowKit
set_option linter.unusedVariables false

theorem crr_get : ∀ (a : List In) (b : List Mi), crr a b = true → ∀ (j : Nat) (h1 : j < a.length) (h2 : j < b.length), smP a[j] b[j] = true
  | x :: a, y :: b, h, 0, _, _ => by
    simp only [crr, Bool.and_eq_true] at h
    exact h.1
  | x :: a, y :: b, h, j + 1, h1, h2 => by
    simp only [crr, Bool.and_eq_true] at h
    exact crr_get a b h.2 j (by simpa using h1) (by simpa using h2)
theorem smP_mkM {x : In} (h1 : isC x = false) (h2 : x.op ≠ 18) : smP x (mkM x) = true := by
  have h3 : x.op ≠ 2 := by simpa [isC] using h1
  simp [smP, mkM, h2, h3]
theorem isM_mkM {x : In} (h : x.op ≠ 18) : isM (mkM x) = false := by simpa [isM, mkM] using h

theorem alC_swap {code : List In} (h : ∀ x ∈ code, x.op ≠ 18) {k : Nat} (hk : k < (opC code).length) {y : Mi} (hne : ¬ (y.op = (opC code)[k].op ∧ y.imm = (opC code)[k].imm)) :
    (alC code (((opC code).map mkM).set k y)).2.2 = 20 ∧ k ≤ (alC code (((opC code).map mkM).set k y)).2.1 ∧ (y.op ≠ 18 → (alC code (((opC code).map mkM).set k y)).2.1 = k) := by
  have h18 : ∀ x ∈ opC code, x.op ≠ 18 := fun x hx => h x (List.mem_filter.1 hx).1
  have hC : ∀ x ∈ opC code, isC x = false := fun x hx => opC_not x hx
  have hid := idx_get0 isC code
  change _ = (opC code).map some at hid
  unfold alC
  obtain ⟨a, ha⟩ : ∃ a, a = idx isC code 0 := ⟨_, rfl⟩
  have hcr := alC_crr code (((opC code).map mkM).set k y)
  rw [← ha] at hid ⊢
  generalize opC code = la at *
  have hal : a.length = la.length := by simpa using congrArg List.length hid
  have hget : ∀ j (h1 : j < a.length) (h2 : j < la.length), code[a[j]]? = some la[j] := fun j h1 h2 => by
    have := congrArg (fun l => l[j]?) hid
    simpa [h1, h2] using this
  have hml : ((la.map mkM).set k y).length = la.length := by simp
  have hlo : ∀ j (h1 : j < la.length), j < k → ((la.map mkM).set k y)[j]? = some (mkM la[j]) := fun j h1 h2 => by
    rw [List.getElem?_set_ne (by omega)]
    simp [h1]
  have hat : ((la.map mkM).set k y)[k]? = some y := by
    rw [List.getElem?_set_self (by simpa using hk)]
  have hsp : (la.map mkM).set k y = (la.take k).map mkM ++ ([y] ++ (la.drop (k + 1)).map mkM) := by
    rw [List.set_eq_take_append_cons_drop, if_pos (by simpa using hk), List.map_take, List.map_drop]
    rfl
  have hidx : idx isM ((la.map mkM).set k y) 0 = List.range' 0 k ++ idx isM ([y] ++ (la.drop (k + 1)).map mkM) k := by
    rw [hsp, idx_append, idx_none isM ((la.take k).map mkM) 0 fun z hz => by
      obtain ⟨x, hx, rfl⟩ := List.mem_map.1 hz
      exact isM_mkM (h18 x (List.mem_of_mem_take hx))]
    have hl : ((la.take k).map mkM).length = k := by simp; omega
    rw [hl, Nat.zero_add]
  have hbad : crr la (opM ((la.map mkM).set k y)) = false := by
    cases hb : crr la (opM ((la.map mkM).set k y))
    · rfl
    · exfalso
      by_cases hy : y.op = 18
      · have h1 := crr_len _ _ hb
        rw [hsp] at h1
        unfold opM at h1
        rw [List.filter_append, List.filter_append, List.filter_cons_of_neg (by simp [isM, hy])] at h1
        have h2 := List.length_filter_le (fun x => !isM x) ((la.take k).map mkM)
        have h3 := List.length_filter_le (fun x => !isM x) ((la.drop (k + 1)).map mkM)
        simp at h1 h2 h3
        omega
      · have h0 : opM ((la.map mkM).set k y) = (la.map mkM).set k y := opM_all fun z hz => by
          rcases List.mem_or_eq_of_mem_set hz with hz | rfl
          · obtain ⟨x, hx, rfl⟩ := List.mem_map.1 hz
            exact isM_mkM (h18 x hx)
          · simpa [isM] using hy
        rw [h0] at hb
        have h1 := crr_get _ _ hb k hk (by rw [hml]; exact hk)
        rw [List.getElem_set_self] at h1
        simp only [smP, Bool.and_eq_true, beq_iff_eq] at h1
        exact hne ⟨h1.1.1.1.symm, h1.2.symm⟩
  rw [hbad] at hcr
  have hda := List.drop_eq_getElem_cons (show k < a.length by omega)
  obtain ⟨i', k', acc', hsk⟩ := al_skip (code := code) (mach := (la.map mkM).set k y) (a.take k) (List.range' 0 k) (a.drop k) (idx isM ([y] ++ (la.drop (k + 1)).map mkM) k) 0 0 [] (by simp; omega) fun j h1 h2 => by
    have hj : j < k := by simpa using h2
    have e1 := hget j (by omega) (by omega)
    have e2 := hlo j (by omega) hj
    simp only [List.getElem_take, List.getElem_range', Nat.zero_add, Nat.one_mul]
    simp only [smA, e1, e2]
    exact smP_mkM (hC _ (List.getElem_mem _)) (h18 _ (List.getElem_mem _))
  rw [List.take_append_drop, ← hidx] at hsk
  rw [hsk]
  have hc1 : (alC code ((la.map mkM).set k y)).2.2 = 20 := hcr.1
  unfold alC at hc1
  rw [← ha, hsk] at hc1
  refine ⟨hc1, ?_, fun hy => ?_⟩
  · rcases al_at (code := code) (mach := (la.map mkM).set k y) (a.drop k) (idx isM ([y] ++ (la.drop (k + 1)).map mkM) k) i' k' acc' with h1 | h1
    · rw [h1, hml]
      omega
    · exact (idx_lt _ _ _ _ h1).1
  · have hy2 : isM y = false := by simpa [isM] using hy
    rw [hda, List.singleton_append, idx, hy2, if_neg (by simp), al]
    have hs : smA code ((la.map mkM).set k y) a[k] k = false := by
      simp only [smA, hget k (by omega) hk, hat]
      cases hh : smP la[k] y
      · rfl
      · simp only [smP, Bool.and_eq_true, beq_iff_eq] at hh
        exact absurd ⟨hh.1.1.1.symm, hh.2.symm⟩ hne
    rw [hs, if_neg (by simp)]

end Go.Proofs.Ytimmnnadoeagfaa
