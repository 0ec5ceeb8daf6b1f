/-
  What the rows of an alignment are.
-/
import Derived.Test.YtimmnnadoeagfaaAlMath
namespace Go.Proofs.Ytimmnnadoeagfaa
open Go.RowKit
set_option linter.unusedVariables false
set_option linter.unusedSectionVars false

/-- The rows from these indices on. -/
inductive Chn (code : List In) (mach : List Mi) : Nat → Nat → List Rw → Prop
  | last {i k : Nat} (hi : i ≤ code.length) (hk : k ≤ mach.length) (hc : ∀ z (h : z < code.length), i ≤ z → isC code[z] = true) (hm : ∀ z (h : z < mach.length), k ≤ z → isM mach[z] = true) :
      Chn code mach i k [⟨i, code.length, k, mach.length, -1, -1⟩]
  | step {i k x y : Nat} {r : List Rw} (hi : i ≤ x) (hx : x < code.length) (hk : k ≤ y) (hy : y < mach.length) (hc : ∀ z (h : z < code.length), i ≤ z → z < x → isC code[z] = true) (hm : ∀ z (h : z < mach.length), k ≤ z → z < y → isM mach[z] = true)
      (hs : smP code[x] mach[y] = true) (hr : Chn code mach (x + 1) (y + 1) r) : Chn code mach i k (⟨i, x, k, y, x, y⟩ :: r)

theorem Chn.ne {code : List In} {mach : List Mi} {i k : Nat} {r : List Rw} (h : Chn code mach i k r) : r ≠ [] := by
  cases h <;> simp

theorem ld_drop {α : Type} (p : α → Bool) (l : List α) (i : Nat) : ∀ z (h : z < l.length), i ≤ z → z < i + ld p (l.drop i) → p l[z] = true := fun z h h1 h2 => by
  have := ld_lt p (l.drop i) (z - i) (by simp; omega) (by omega)
  simp only [List.getElem_drop] at this
  simpa [show i + (z - i) = z by omega] using this
theorem ld_drop_at {α : Type} (p : α → Bool) (l : List α) (i : Nat) (h : i + ld p (l.drop i) < l.length) : p l[i + ld p (l.drop i)] = false := by
  have := ld_at p (l.drop i) (by simp; omega)
  simpa only [List.getElem_drop] using this

/-- What the alignment from these indices on comes to. -/
def Out (code : List In) (mach : List Mi) (s m : Nat) (acc : List Rw) : Prop :=
  (∃ r, alS code mach s m acc = (acc ++ r, mach.length, 0) ∧ Chn code mach s m r) ∨ (∃ y, alS code mach s m acc = ([], y, 20) ∧ y ≤ mach.length ∧ ∀ h : y < mach.length, isM mach[y] = false)

theorem out_one {code : List In} {mach : List Mi} {s m : Nat} {acc : List Rw} (hs : s ≤ code.length) (hm : m ≤ mach.length)
    (ih : ∀ x y, s ≤ x → x < code.length → y < mach.length → ∀ acc', Out code mach (x + 1) (y + 1) acc') : Out code mach s m acc := by
  obtain ⟨ct, hc⟩ : ∃ ct, ct = s + ld isC (code.drop s) := ⟨_, rfl⟩
  obtain ⟨mt, ht⟩ : ∃ mt, mt = m + ld isM (mach.drop m) := ⟨_, rfl⟩
  have l1 := ld_le isC (code.drop s)
  have l2 := ld_le isM (mach.drop m)
  rw [List.length_drop] at l1 l2
  have k1 := ld_drop isC code s
  have k2 := ld_drop isM mach m
  have k4 := ld_drop_at isM mach m
  rw [← hc] at k1
  simp only [← ht] at k2 k4
  by_cases h1 : ct = code.length
  · by_cases h2 : mt = mach.length
    · refine .inl ⟨[⟨s, ct, m, mt, -1, -1⟩], ?_, ?_⟩
      · rw [alS_end hs hm hc ht h1 h2, h2]
      · rw [h1, h2]
        exact .last hs hm (fun z h hz => k1 z h hz (by omega)) (fun z h hz => k2 z h hz (by omega))
    · exact .inr ⟨mt, alS_src hs hm hc ht h1 (by omega), by omega, k4⟩
  · by_cases h2 : mt = mach.length
    · exact .inr ⟨mt, alS_mach hs hm hc ht (by omega) h2, by omega, k4⟩
    · have g1 : ct < code.length := by omega
      have g2 : mt < mach.length := by omega
      cases hh : smP code[ct] mach[mt]
      · exact .inr ⟨mt, alS_bad hs hm hc ht g1 g2 hh, by omega, k4⟩
      · have e := alS_ok (acc := acc) hs hm hc ht g1 g2 hh
        rcases ih ct mt (by omega) g1 g2 (acc ++ [⟨s, ct, m, mt, ct, mt⟩]) with ⟨r, h3, h4⟩ | ⟨y, h3, h4⟩
        · refine .inl ⟨⟨s, ct, m, mt, ct, mt⟩ :: r, ?_, .step (by omega) g1 (by omega) g2 (fun z h hz hz2 => k1 z h hz hz2) (fun z h hz hz2 => k2 z h hz hz2) hh h4⟩
          rw [e, h3]
          simp
        · exact .inr ⟨y, e.trans h3, h4⟩

theorem out_all (code : List In) (mach : List Mi) : ∀ (f s m : Nat) (acc : List Rw), code.length - s ≤ f → s ≤ code.length → m ≤ mach.length → Out code mach s m acc
  | 0, s, m, acc, hf, hs, hm => out_one hs hm fun x y h1 h2 h3 acc' => by omega
  | f + 1, s, m, acc, hf, hs, hm => out_one hs hm fun x y h1 h2 h3 acc' => out_all code mach f _ _ acc' (by omega) (by omega) (by omega)
theorem alC_out (code : List In) (mach : List Mi) : (∃ r, alC code mach = (r, mach.length, 0) ∧ Chn code mach 0 0 r) ∨ (∃ y, alC code mach = ([], y, 20) ∧ y ≤ mach.length ∧ ∀ h : y < mach.length, isM mach[y] = false) :=
  out_all code mach code.length 0 0 [] (by omega) (by omega) (by omega)

end Go.Proofs.Ytimmnnadoeagfaa
