/-
  When there is an alignment: the blocks without copies and moves correspond.
-/
import Derived.Test.YtimmnnadoeagfaaAlMath
namespace Go.Proofs.Ytimmnnadoeagfaa
open Go.RowKit
set_option linter.unusedVariables false
set_option linter.unusedSectionVars false

/-- Whether the instructions of two lists correspond. -/
def crr : List In → List Mi → Bool
  | [], [] => true
  | x :: a, y :: b => smP x y && crr a b
  | _, _ => false
theorem crr_len : ∀ (a : List In) (b : List Mi), crr a b = true → a.length = b.length
  | [], [], _ => rfl
  | [], _ :: _, h => by simp [crr] at h
  | _ :: _, [], h => by simp [crr] at h
  | x :: a, y :: b, h => by
    simp only [crr, Bool.and_eq_true] at h
    simp [crr_len a b h.2]

theorem idx_get {α : Type} (p : α → Bool) : ∀ (l pre : List α), (idx p l pre.length).map (fun x => (pre ++ l)[x]?) = (l.filter fun x => !p x).map some
  | [], _ => rfl
  | x :: r, pre => by
    have ih := idx_get p r (pre ++ [x])
    rw [List.append_assoc, List.singleton_append, List.length_append, List.length_singleton] at ih
    rw [idx]
    cases h : p x
    · rw [if_neg (by simp), List.map_cons, ih]
      simp [h]
    · rw [if_pos rfl, ih]
      simp [h]
theorem idx_get0 {α : Type} (p : α → Bool) (l : List α) : (idx p l 0).map (fun x => l[x]?) = (l.filter fun x => !p x).map some := idx_get p l []

section
variable (code : List In) (mach : List Mi)
theorem al_crr : ∀ (a b : List Nat) (la : List In) (lb : List Mi) (i k : Nat) (acc : List Rw), a.map (fun x => code[x]?) = la.map some → b.map (fun x => mach[x]?) = lb.map some →
    (al code mach a b i k acc).2.2 = (if crr la lb = true then 0 else 20) ∧ (al code mach a b i k acc).1.length = if crr la lb = true then acc.length + la.length + 1 else 0
  | [], [], [], [], _, _, _, _, _ => by simp [al, crr]
  | _ :: _, [], _ :: _, [], _, _, _, _, _ => by simp [al, crr]
  | [], _ :: _, [], _ :: _, _, _, _, _, _ => by simp [al, crr]
  | x :: a, y :: b, u :: la, v :: lb, i, k, acc, ha, hb => by
    simp only [List.map_cons, List.cons.injEq] at ha hb
    have hs : smA code mach x y = smP u v := by simp [smA, ha.1, hb.1]
    rw [al, crr, hs]
    cases h : smP u v
    · simp
    · have ih := al_crr a b la lb (x + 1) (y + 1) (acc ++ [⟨i, x, k, y, x, y⟩]) ha.2 hb.2
      rw [if_pos rfl, ih.1, ih.2]
      simp only [Bool.true_and]
      refine ⟨trivial, ?_⟩
      split
      · rw [List.length_append, List.length_cons, List.length_cons, List.length_nil]
        omega
      · rfl
  | [], _, _ :: _, _, _, _, _, ha, _ => by simp at ha
  | _ :: _, _, [], _, _, _, _, ha, _ => by simp at ha
  | _, [], _, _ :: _, _, _, _, _, hb => by simp at hb
  | _, _ :: _, _, [], _, _, _, _, hb => by simp at hb
/-- A block without its copies. -/
def opC (l : List In) : List In := l.filter fun x => !isC x
/-- A block without its moves. -/
def opM (l : List Mi) : List Mi := l.filter fun x => !isM x
theorem alC_crr : (alC code mach).2.2 = (if crr (opC code) (opM mach) = true then 0 else 20) ∧ (alC code mach).1.length = if crr (opC code) (opM mach) = true then (opC code).length + 1 else 0 := by
  have := al_crr code mach (idx isC code 0) (idx isM mach 0) (opC code) (opM mach) 0 0 [] (idx_get0 isC code) (idx_get0 isM mach)
  simpa [alC] using this
end
theorem opC_ins {l : List In} {c : In} (h : isC c = true) (i : Nat) : opC (l.take i ++ [c] ++ l.drop i) = opC l := by
  unfold opC
  rw [List.filter_append, List.filter_append, List.filter_cons_of_neg (by simp [h]), List.filter_nil, List.append_nil, ← List.filter_append, List.take_append_drop]
theorem opM_ins {l : List Mi} {c : Mi} (h : isM c = true) (i : Nat) : opM (l.take i ++ [c] ++ l.drop i) = opM l := by
  unfold opM
  rw [List.filter_append, List.filter_append, List.filter_cons_of_neg (by simp [h]), List.filter_nil, List.append_nil, ← List.filter_append, List.take_append_drop]
/-- A copy and a move more. -/
theorem alC_ins {code : List In} {mach : List Mi} {c : In} {m : Mi} (hc : isC c = true) (hm : isM m = true) (i k : Nat) :
    (alC (code.take i ++ [c] ++ code.drop i) (mach.take k ++ [m] ++ mach.drop k)).2.2 = (alC code mach).2.2 ∧ (alC (code.take i ++ [c] ++ code.drop i) (mach.take k ++ [m] ++ mach.drop k)).1.length = (alC code mach).1.length := by
  rw [(alC_crr _ _).1, (alC_crr _ _).2, (alC_crr code mach).1, (alC_crr code mach).2, opC_ins hc, opM_ins hm]
  exact ⟨rfl, rfl⟩

/-- The machine instruction with an instruction's operation. -/
def mkM (x : In) : Mi := ⟨x.op, 0, 0, 0, x.imm, 0, 0⟩
theorem crr_own : ∀ l : List In, (∀ x ∈ l, isC x = false ∧ x.op ≠ 18) → crr l (l.map mkM) = true
  | [], _ => rfl
  | x :: r, h => by
    have h1 := h x (by simp)
    have h2 : x.op ≠ 2 := by simpa [isC] using h1.1
    rw [List.map_cons, crr, crr_own r fun y hy => h y (List.mem_cons_of_mem _ hy)]
    simp [smP, mkM, h2, h1.2]
theorem opC_not {l : List In} : ∀ x ∈ opC l, isC x = false := fun x hx => by
  have := (List.mem_filter.1 hx).2
  simpa using this
theorem opM_all {l : List Mi} (h : ∀ x ∈ l, isM x = false) : opM l = l := List.filter_eq_self.2 fun x hx => by simp [h x hx]
/-- A block is aligned with its own instructions. -/
theorem alC_own {code : List In} (h : ∀ x ∈ code, x.op ≠ 18) : (alC code ((opC code).map mkM)).2.2 = 0 := by
  have h18 : ∀ x ∈ opC code, x.op ≠ 18 := fun x hx => h x (List.mem_filter.1 hx).1
  rw [(alC_crr _ _).1, opM_all fun y hy => by
    obtain ⟨x, hx, rfl⟩ := List.mem_map.1 hy
    simpa [isM, mkM] using h18 x hx, crr_own _ fun x hx => ⟨opC_not x hx, h18 x hx⟩]
  rfl

section
variable {code : List In} {mach : List Mi}
theorem al_skip : ∀ (a1 b1 a2 b2 : List Nat) (i k : Nat) (acc : List Rw), a1.length = b1.length → (∀ j (h : j < a1.length) (h' : j < b1.length), smA code mach a1[j] b1[j] = true) →
    ∃ i' k' acc', al code mach (a1 ++ a2) (b1 ++ b2) i k acc = al code mach a2 b2 i' k' acc'
  | [], [], a2, b2, i, k, acc, _, _ => ⟨i, k, acc, rfl⟩
  | x :: a1, y :: b1, a2, b2, i, k, acc, hl, h => by
    have h0 : smA code mach x y = true := h 0 (by simp) (by simp)
    rw [List.cons_append, List.cons_append, al, if_pos h0]
    exact al_skip a1 b1 a2 b2 _ _ _ (by simpa using hl) fun j h1 h2 => h (j + 1) (by simpa using h1) (by simpa using h2)
  | [], _ :: _, _, _, _, _, _, hl, _ => by simp at hl
  | _ :: _, [], _, _, _, _, _, hl, _ => by simp at hl
theorem al_at : ∀ (a b : List Nat) (i k : Nat) (acc : List Rw), (al code mach a b i k acc).2.1 = mach.length ∨ (al code mach a b i k acc).2.1 ∈ b
  | [], [], _, _, _ => .inl rfl
  | _ :: _, [], _, _, _ => .inl rfl
  | [], y :: _, _, _, _ => .inr (by simp [al])
  | x :: a, y :: b, i, k, acc => by
    rw [al]
    split
    · exact (al_at a b _ _ _).imp id fun h => List.mem_cons_of_mem _ h
    · exact .inr (by simp)
end

end Go.Proofs.Ytimmnnadoeagfaa
