/-
  The plain mathematics of layer 1: what decoding and encoding compute, as functions on lists of numbers. No program.
-/
import Derived.Laws.BitsAllLaws
import Derived.Laws.Bits128
namespace Go.Proofs.Ytgipdebkikldaaa

/-- What is decoded: from byte k on, v being the value of the bytes before. -/
def getF (k v : Nat) : List Nat → Nat × Nat × Nat
  | [] => (0, 0, 1)
  | c :: r => if k = 9 ∧ 1 < c ∨ 0 < k ∧ c = 0 then (0, 0, 3) else if c < 128 then (v + c * 128 ^ k, k + 1, 0) else getF (k + 1) (v + (c - 128) * 128 ^ k) r
def getS (l : List Nat) : Nat × Nat × Nat := getF 0 0 l
/-- What is encoded (f: how many digits may still follow). -/
def putF : Nat → Nat → List Nat
  | 0, v => [v]
  | f + 1, v => if v < 128 then [v] else (v % 128 + 128) :: putF f (v / 128)
def putS (v : Nat) : List Nat := putF 9 v

theorem getF_bad {k v c : Nat} {r : List Nat} (h : k = 9 ∧ 1 < c ∨ 0 < k ∧ c = 0) : getF k v (c :: r) = (0, 0, 3) := by rw [getF, if_pos h]
theorem getF_last {k v c : Nat} {r : List Nat} (h : ¬ (k = 9 ∧ 1 < c ∨ 0 < k ∧ c = 0)) (hc : c < 128) : getF k v (c :: r) = (v + c * 128 ^ k, k + 1, 0) := by rw [getF, if_neg h, if_pos hc]
theorem getF_more {k v c : Nat} {r : List Nat} (h : ¬ (k = 9 ∧ 1 < c ∨ 0 < k ∧ c = 0)) (hc : ¬ c < 128) : getF k v (c :: r) = getF (k + 1) (v + (c - 128) * 128 ^ k) r := by rw [getF, if_neg h, if_neg hc]

/-- How the head of a loop over l stands: k bytes done, their value v. -/
def GetAt (l : List Nat) (k v : Nat) : Prop := getS l = getF k v (l.drop k) ∧ v < 128 ^ k ∧ k ≤ 9

theorem GetAt.zero (l : List Nat) : GetAt l 0 0 := ⟨by simp [getS], by simp, by omega⟩
theorem drop_cons {l : List Nat} {k : Nat} (h : k < l.length) : l.drop k = l[k] :: l.drop (k + 1) := (List.getElem_cons_drop h).symm
theorem GetAt.bad {l : List Nat} {k v : Nat} (h : GetAt l k v) (hk : k < l.length) (hb : k = 9 ∧ 1 < l[k] ∨ 0 < k ∧ l[k] = 0) : getS l = (0, 0, 3) := by
  rw [h.1, drop_cons hk, getF_bad hb]
theorem GetAt.last {l : List Nat} {k v : Nat} (h : GetAt l k v) (hk : k < l.length) (hb : ¬ (k = 9 ∧ 1 < l[k] ∨ 0 < k ∧ l[k] = 0)) (hc : l[k] < 128) : getS l = (v + l[k] * 128 ^ k, k + 1, 0) := by
  rw [h.1, drop_cons hk, getF_last hb hc]
theorem GetAt.more {l : List Nat} {k v : Nat} (h : GetAt l k v) (hk : k < l.length) (hb : ¬ (k = 9 ∧ 1 < l[k] ∨ 0 < k ∧ l[k] = 0)) (hc : ¬ l[k] < 128) (hx : l[k] < 256) :
    GetAt l (k + 1) (v + (l[k] - 128) * 128 ^ k) := by
  obtain ⟨h1, h2, h3⟩ := h
  refine ⟨by rw [h1, drop_cons hk, getF_more hb hc], ?_, by omega⟩
  have : (l[k] - 128) * 128 ^ k ≤ 127 * 128 ^ k := Nat.mul_le_mul_right _ (by omega)
  rw [Nat.pow_succ]
  omega
theorem GetAt.short {l : List Nat} {k v : Nat} (h : GetAt l k v) (hk : ¬ k < l.length) : getS l = (0, 0, 1) := by
  rw [h.1, List.drop_eq_nil_of_le (by omega), getF]

theorem and127 (x : Nat) (hx : x < 256) : bits .and .u8 (x : Int) 127 = ((x % 128 : Nat) : Int) := by
  have := u8_and_nat x 127 hx (by omega)
  rw [nat_mask7] at this
  exact this

theorem pow7 (k : Nat) : (2 : Int) ^ (7 * k) = ((128 ^ k : Nat) : Int) := by
  rw [Int.pow_mul, Int.natCast_pow]
  rfl

theorem or_step {u x k : Nat} (hk : k ≤ 9) (hu : u < 128 ^ k) (hx : x < 256) (h9 : k = 9 → x % 128 ≤ 1) :
    bits .or .u64 (u : Int) (IntKind.u64.wrap (IntKind.u64.wrap (bits .and .u8 (x : Int) 127) * 2 ^ (7 * k))) = ((u + x % 128 * 128 ^ k : Nat) : Int) := by
  have hp : 128 ^ k ≤ 128 ^ 9 := Nat.pow_le_pow_right (by omega) hk
  have hq : x % 128 * 128 ^ k + 128 ^ k ≤ 18446744073709551616 := by
    by_cases h : k = 9
    · subst h
      have := h9 rfl
      have e : (128 : Nat) ^ 9 = 9223372036854775808 := by decide
      rw [e]
      omega
    · have h8 : 128 ^ k ≤ 128 ^ 8 := Nat.pow_le_pow_right (by omega) (by omega)
      have e : (128 : Nat) ^ 8 = 72057594037927936 := by decide
      have : x % 128 * 128 ^ k ≤ 127 * 128 ^ k := Nat.mul_le_mul_right _ (by omega)
      omega
  have hpos : 0 < 128 ^ k := Nat.pow_pos (by omega)
  rw [and127 x hx, pow7]
  have e1 : IntKind.u64.wrap ((x % 128 : Nat) : Int) = ((x % 128 : Nat) : Int) := by rw [IntKind.wrap_u64]; omega
  rw [e1, ← Int.natCast_mul]
  have e2 : IntKind.u64.wrap ((x % 128 * 128 ^ k : Nat) : Int) = ((x % 128 * 128 ^ k : Nat) : Int) := by
    rw [IntKind.wrap_u64]
    omega
  rw [e2, u64_or_nat _ _ (by omega) (by omega)]
  congr 1
  have e3 : (128 : Nat) ^ k = 2 ^ (7 * k) := by rw [Nat.pow_mul]
  rw [Nat.or_comm, nat_join (7 * k) _ _ (by rw [← e3]; exact Nat.mul_mod_left _ _) (by rw [← e3]; exact hu)]
  omega

theorem mul_last {u x k q : Nat} (hk : k ≤ 9) (hu : u < 128 ^ k) (hx : x < 128) (h9 : k = 9 → x ≤ 1) (hq : q = 128 ^ k) :
    IntKind.u64.wrap ((u : Int) + IntKind.u64.wrap ((x : Int) * (q : Int))) = ((u + x * 128 ^ k : Nat) : Int) := by
  subst hq
  have hp : 128 ^ k ≤ 128 ^ 9 := Nat.pow_le_pow_right (by omega) hk
  have hb : x * 128 ^ k + 128 ^ k ≤ 18446744073709551616 := by
    by_cases h : k = 9
    · subst h
      have := h9 rfl
      have e : (128 : Nat) ^ 9 = 9223372036854775808 := by decide
      rw [e]
      omega
    · have h8 : 128 ^ k ≤ 128 ^ 8 := Nat.pow_le_pow_right (by omega) (by omega)
      have e : (128 : Nat) ^ 8 = 72057594037927936 := by decide
      have : x * 128 ^ k ≤ 127 * 128 ^ k := Nat.mul_le_mul_right _ (by omega)
      omega
  rw [← Int.natCast_mul, IntKind.wrap_u64, IntKind.wrap_u64]
  omega
theorem mul_more {u x k q : Nat} (hk : k < 9) (hu : u < 128 ^ k) (hx : 128 ≤ x) (hx' : x < 256) (hq : q = 128 ^ k) :
    IntKind.u64.wrap ((u : Int) + IntKind.u64.wrap (((x : Int) - 128) * (q : Int))) = ((u + (x - 128) * 128 ^ k : Nat) : Int) := by
  have := mul_last (x := x - 128) (by omega) hu (by omega) (by omega) hq
  rwa [show ((x - 128 : Nat) : Int) = (x : Int) - 128 by omega] at this
theorem pow_more {k q : Nat} (hk : k < 9) (hq : q = 128 ^ k) : IntKind.u64.wrap ((q : Int) * 128) = ((128 ^ (k + 1) : Nat) : Int) := by
  subst hq
  have h8 : 128 ^ k ≤ 128 ^ 8 := Nat.pow_le_pow_right (by omega) (by omega)
  have e : (128 : Nat) ^ 8 = 72057594037927936 := by decide
  rw [IntKind.wrap_u64, Nat.pow_succ]
  omega

/-- The eight ways through a round of decoding. -/
theorem ways8 (k x : Nat) (hk : k ≤ 9) : (k = 9 ∧ 1 < x) ∨ (k = 9 ∧ x = 0) ∨ (k = 9 ∧ x = 1) ∨ (0 < k ∧ k < 9 ∧ x = 0) ∨ (0 < k ∧ k < 9 ∧ 0 < x ∧ x < 128) ∨ (0 < k ∧ k < 9 ∧ 128 ≤ x) ∨ (k = 0 ∧ x < 128) ∨ (k = 0 ∧ 128 ≤ x) := by omega

theorem putF_pos : ∀ (f v : Nat), 1 ≤ (putF f v).length
  | 0, _ => by simp [putF]
  | f + 1, v => by
    rw [putF]
    split <;> simp
theorem putF_le : ∀ (f v : Nat), (putF f v).length ≤ f + 1
  | 0, _ => by simp [putF]
  | f + 1, v => by
    have := putF_le f (v / 128)
    rw [putF]
    split <;> simp only [List.length_cons, List.length_nil] <;> omega
theorem putF_lt : ∀ (f v : Nat), v < 128 ^ (f + 1) → v < 128 ^ (putF f v).length
  | 0, v, h => by simpa [putF] using h
  | f + 1, v, h => by
    rw [Nat.pow_succ] at h
    have := putF_lt f (v / 128) (by omega)
    rw [putF]
    split
    · simpa using ‹v < 128›
    · rw [List.length_cons, Nat.pow_succ]
      omega
theorem putF_ge : ∀ (f v : Nat), (putF f v).length = 1 ∨ 128 ^ ((putF f v).length - 1) ≤ v
  | 0, _ => .inl (by simp [putF])
  | f + 1, v => by
    rw [putF]
    split
    · exact .inl rfl
    · refine .inr ?_
      have hp := putF_pos f (v / 128)
      rw [List.length_cons, Nat.add_sub_cancel]
      rcases putF_ge f (v / 128) with h | h
      · rw [h]
        omega
      · rw [show (putF f (v / 128)).length = ((putF f (v / 128)).length - 1) + 1 by omega, Nat.pow_succ]
        omega
theorem putF_get : ∀ (f v j : Nat), v < 128 ^ (f + 1) → j < (putF f v).length →
    (putF f v)[j]? = some (v / 128 ^ j % 128 + if j + 1 < (putF f v).length then 128 else 0)
  | 0, v, j, h, hj => by
    simp only [putF, List.length_cons, List.length_nil, Nat.zero_add, Nat.lt_one_iff] at hj
    subst hj
    simp only [putF, List.length_cons, List.length_nil]
    have : v % 128 = v := Nat.mod_eq_of_lt (by simpa using h)
    simp [this]
  | f + 1, v, j, h, hj => by
    have hp := putF_pos f (v / 128)
    rw [Nat.pow_succ] at h
    rw [putF] at hj ⊢
    split
    · rename_i hv
      rw [if_pos hv] at hj
      simp only [List.length_cons, List.length_nil, Nat.zero_add, Nat.lt_one_iff] at hj
      subst hj
      have : v % 128 = v := Nat.mod_eq_of_lt hv
      simp [this]
    · rename_i hv
      rw [if_neg hv, List.length_cons] at hj
      cases j with
      | zero => rw [List.getElem?_cons_zero, List.length_cons, if_pos (by omega), Nat.pow_zero, Nat.div_one]
      | succ j =>
        have := putF_get f (v / 128) j (by omega) (by omega)
        rw [List.getElem?_cons_succ, this, Nat.div_div_eq_div_mul, Nat.pow_succ, Nat.mul_comm 128, List.length_cons]
        simp only [Nat.add_lt_add_iff_right]

theorem putS_pos (v : Nat) : 1 ≤ (putS v).length := putF_pos 9 v
theorem putS_le (v : Nat) : (putS v).length ≤ 10 := putF_le 9 v
theorem putS_lt (v : Nat) (h : v < 128 ^ 10) : v < 128 ^ (putS v).length := putF_lt 9 v h
theorem putS_ge (v : Nat) : (putS v).length = 1 ∨ 128 ^ ((putS v).length - 1) ≤ v := putF_ge 9 v
theorem putS_get (v j : Nat) (h : v < 128 ^ 10) (hj : j < (putS v).length) : (putS v)[j]? = some (v / 128 ^ j % 128 + if j + 1 < (putS v).length then 128 else 0) := putF_get 9 v j h hj
theorem putS_byt (v : Nat) (h : v < 128 ^ 10) : ∀ x ∈ putS v, x < 256 := by
  intro x hx
  obtain ⟨j, hj⟩ := List.mem_iff_getElem?.1 hx
  have hl : j < (putS v).length := (List.getElem?_eq_some_iff.1 hj).1
  rw [putS_get v j h hl] at hj
  injection hj with hj
  split at hj <;> omega

end Go.Proofs.Ytgipdebkikldaaa
