/-
  Alignments of a source block and an allocated block, as data.
-/
import Derived.Test.YtimmnnadoeagfaaMac
namespace Go.Proofs.Ytimmnnadoeagfaa
open Go.RowKit
set_option linter.unusedVariables false
set_option linter.unusedSectionVars false

/-- A row of an alignment. -/
structure Rw where
  cf : Int
  ct : Int
  mf : Int
  mt : Int
  s : Int
  m : Int

def isC (x : In) : Bool := x.op == 2
def isM (x : Mi) : Bool := x.op == 18
/-- Whether an instruction and an allocated instruction correspond. -/
def smP (x : In) (y : Mi) : Bool := x.op == y.op && x.op != 2 && x.op != 18 && x.imm == y.imm

section
variable {α : Type} (p : α → Bool)
/-- How many elements at the beginning satisfy p. -/
def ld : List α → Nat
  | [] => 0
  | x :: r => if p x then ld r + 1 else 0
/-- The indices of those that do not. -/
def idx : List α → Nat → List Nat
  | [], _ => []
  | x :: r, i => if p x then idx r (i + 1) else i :: idx r (i + 1)

theorem ld_le : ∀ l : List α, ld p l ≤ l.length
  | [] => Nat.le_refl _
  | x :: r => by
    rw [ld]
    have := ld_le r
    split <;> simp <;> omega
theorem ld_lt : ∀ (l : List α) (k : Nat) (h : k < l.length), k < ld p l → p l[k] = true
  | x :: r, k, h, hk => by
    rw [ld] at hk
    split at hk
    · rcases k with _ | k
      · assumption
      · exact ld_lt r k (by simpa using h) (by omega)
    · omega
theorem ld_at : ∀ (l : List α) (h : ld p l < l.length), p l[ld p l] = false
  | x :: r, h => by
    by_cases hx : p x = true
    · have e : ld p (x :: r) = ld p r + 1 := by rw [ld, if_pos hx]
      simp only [e, List.getElem_cons_succ]
      exact ld_at r _
    · have e : ld p (x :: r) = 0 := by rw [ld, if_neg hx]
      simp only [e, List.getElem_cons_zero]
      simpa using hx
theorem idx_ld : ∀ (l : List α) (i : Nat), idx p l i = if ld p l < l.length then (i + ld p l) :: idx p (l.drop (ld p l + 1)) (i + ld p l + 1) else []
  | [], i => rfl
  | x :: r, i => by
    by_cases hx : p x = true
    · rw [idx, if_pos hx, idx_ld r (i + 1), ld, if_pos hx]
      simp only [List.length_cons, Nat.add_lt_add_iff_right, List.drop_succ_cons]
      rw [show i + 1 + ld p r = i + (ld p r + 1) by omega]
    · rw [idx, if_neg hx, ld, if_neg hx, if_pos (by simp)]
      simp
theorem idx_lt : ∀ (l : List α) (i x : Nat), x ∈ idx p l i → i ≤ x ∧ x < i + l.length ∧ ∀ y, l[x - i]? = some y → p y = false
  | z :: r, i, x, h => by
    rw [idx] at h
    split at h
    · have := idx_lt r (i + 1) x h
      refine ⟨by omega, by simp; omega, fun y hy => ?_⟩
      rw [show x - i = (x - (i + 1)) + 1 by omega, List.getElem?_cons_succ] at hy
      exact this.2.2 y hy
    · rcases List.mem_cons.1 h with rfl | h
      · refine ⟨Nat.le_refl _, by simp, fun y hy => ?_⟩
        simp only [Nat.sub_self, List.getElem?_cons_zero, Option.some.injEq] at hy
        subst hy
        rename_i hn
        simpa using hn
      · have := idx_lt r (i + 1) x h
        refine ⟨by omega, by simp; omega, fun y hy => ?_⟩
        rw [show x - i = (x - (i + 1)) + 1 by omega, List.getElem?_cons_succ] at hy
        exact this.2.2 y hy
theorem idx_len : ∀ (l : List α) (i : Nat), (idx p l i).length = (l.filter fun x => !p x).length
  | [], _ => rfl
  | x :: r, i => by
    rw [idx]
    cases hx : p x
    · simp [hx, idx_len r]
    · simp [hx, idx_len r]
theorem idx_le (l : List α) (i : Nat) : (idx p l i).length ≤ l.length := by
  rw [idx_len]
  exact List.length_filter_le _ _
theorem idx_append : ∀ (a b : List α) (i : Nat), idx p (a ++ b) i = idx p a i ++ idx p b (i + a.length)
  | [], b, i => by simp [idx]
  | x :: r, b, i => by
    rw [List.cons_append, idx, idx, idx_append r b (i + 1), List.length_cons, show i + 1 + r.length = i + (r.length + 1) by omega]
    split
    · rfl
    · rfl
theorem idx_none : ∀ (l : List α) (i : Nat), (∀ x ∈ l, p x = false) → idx p l i = List.range' i l.length
  | [], _, _ => rfl
  | x :: r, i, h => by
    rw [idx, h x (by simp), idx_none r (i + 1) fun y hy => h y (List.mem_cons_of_mem _ hy), List.length_cons, List.range'_succ]
    simp
theorem idx_snoc {l : List α} {k : Nat} (hk : k < l.length) : idx p (l.take (k + 1)) 0 = idx p (l.take k) 0 ++ if p l[k] then [] else [k] := by
  rw [List.take_succ_eq_append_getElem hk, idx_append, List.length_take, Nat.min_eq_left (by omega)]
  cases h : p l[k] <;> simp [idx, h]
end

section
variable (code : List In) (mach : List Mi)
/-- Whether the instructions with these indices correspond. -/
def smA (x y : Nat) : Bool := match code[x]?, mach[y]? with
  | some a, some b => smP a b
  | _, _ => false
/-- The alignment from the indices of the instructions that are left on. -/
def al : List Nat → List Nat → Nat → Nat → List Rw → List Rw × Nat × Int
  | [], [], i, k, acc => (acc ++ [⟨i, code.length, k, mach.length, -1, -1⟩], mach.length, 0)
  | _ :: _, [], _, _, _ => ([], mach.length, 20)
  | [], y :: _, _, _, _ => ([], y, 20)
  | x :: a, y :: b, i, k, acc => if smA code mach x y = true then al a b (x + 1) (y + 1) (acc ++ [⟨i, x, k, y, x, y⟩]) else ([], y, 20)
/-- The alignment from these indices on. -/
def alS (s m : Nat) (acc : List Rw) : List Rw × Nat × Int := al code mach (idx isC (code.drop s) s) (idx isM (mach.drop m) m) s m acc
/-- The alignment. -/
def alC : List Rw × Nat × Int := al code mach (idx isC code 0) (idx isM mach 0) 0 0 []
end

section
variable {code : List In} {mach : List Mi}
theorem smA_eq {x y : Nat} (hx : x < code.length) (hy : y < mach.length) : smA code mach x y = smP code[x] mach[y] := by simp [smA, hx, hy]

theorem alS_zero : alS code mach 0 0 [] = alC code mach := rfl
section
variable {s m ct mt : Nat} {acc : List Rw} (hs : s ≤ code.length) (hm : m ≤ mach.length) (hc : ct = s + ld isC (code.drop s)) (ht : mt = m + ld isM (mach.drop m))
include hs hm hc ht
theorem alS_end (h1 : ct = code.length) (h2 : mt = mach.length) : alS code mach s m acc = (acc ++ [⟨s, ct, m, mt, -1, -1⟩], mt, 0) := by
  unfold alS
  rw [idx_ld isC (code.drop s), idx_ld isM (mach.drop m), if_neg (by simp; omega), if_neg (by simp; omega), al, ← h1, ← h2]
theorem alS_src (h1 : ct = code.length) (h2 : mt < mach.length) : alS code mach s m acc = ([], mt, 20) := by
  unfold alS
  rw [idx_ld isC (code.drop s), idx_ld isM (mach.drop m), if_neg (by simp; omega), if_pos (by simp; omega), al, ht]
theorem alS_mach (h1 : ct < code.length) (h2 : mt = mach.length) : alS code mach s m acc = ([], mt, 20) := by
  unfold alS
  rw [idx_ld isC (code.drop s), idx_ld isM (mach.drop m), if_pos (by simp; omega), if_neg (by simp; omega), al, h2]
theorem alS_bad (h1 : ct < code.length) (h2 : mt < mach.length) (h : smP code[ct] mach[mt] = false) : alS code mach s m acc = ([], mt, 20) := by
  unfold alS
  rw [idx_ld isC (code.drop s), idx_ld isM (mach.drop m), if_pos (by simp; omega), if_pos (by simp; omega), al, ← hc, ← ht, smA_eq h1 h2, h, if_neg (by simp)]
theorem alS_ok (h1 : ct < code.length) (h2 : mt < mach.length) (h : smP code[ct] mach[mt] = true) : alS code mach s m acc = alS code mach (ct + 1) (mt + 1) (acc ++ [⟨s, ct, m, mt, ct, mt⟩]) := by
  unfold alS
  rw [idx_ld isC (code.drop s), idx_ld isM (mach.drop m), if_pos (by simp; omega), if_pos (by simp; omega), al, ← hc, ← ht, smA_eq h1 h2, h, if_pos rfl, List.drop_drop, List.drop_drop,
    show s + (ld isC (code.drop s) + 1) = ct + 1 by omega, show m + (ld isM (mach.drop m) + 1) = mt + 1 by omega]
end
end

end Go.Proofs.Ytimmnnadoeagfaa
