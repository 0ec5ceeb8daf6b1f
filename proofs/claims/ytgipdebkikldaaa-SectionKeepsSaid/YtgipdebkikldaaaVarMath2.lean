/-
  The plain mathematics of layer 1, second part: what is encoded is decoded, whatever follows; what is decoded is the encoding; prefixes and added zero digits are rejected.
-/
import Derived.Test.YtgipdebkikldaaaVarMath
namespace Go.Proofs.Ytgipdebkikldaaa

theorem getF_putF : ∀ (f k u v : Nat) (r : List Nat), k + f = 9 → v * 128 ^ k < 18446744073709551616 → v < 128 ^ (f + 1) → (0 < k → 0 < v) →
    getF k u (putF f v ++ r) = (u + v * 128 ^ k, k + (putF f v).length, 0)
  | 0, k, u, v, r, hk, hv, hf, h0 => by
    obtain rfl : k = 9 := by omega
    have e : (128 : Nat) ^ 9 = 9223372036854775808 := by decide
    have h1 : v < 128 := by simpa using hf
    have h2 := h0 (by omega)
    rw [e] at hv
    rw [putF, List.singleton_append, getF_last (by omega) h1]
    rfl
  | f + 1, k, u, v, r, hk, hv, hf, h0 => by
    rw [putF]
    split
    · rw [List.singleton_append, getF_last (by omega) (by assumption)]
      rfl
    · have hq : v / 128 * 128 ^ (k + 1) ≤ v * 128 ^ k := by
        rw [Nat.pow_succ, Nat.mul_comm (128 ^ k), ← Nat.mul_assoc]
        exact Nat.mul_le_mul_right _ (Nat.div_mul_le_self v 128)
      rw [Nat.pow_succ] at hf
      have ih := getF_putF f (k + 1) (u + (v % 128 + 128 - 128) * 128 ^ k) (v / 128) r (by omega) (by omega) (by omega) (by omega)
      rw [List.cons_append, getF_more (by omega) (by omega), ih, List.length_cons]
      have he : u + (v % 128 + 128 - 128) * 128 ^ k + v / 128 * 128 ^ (k + 1) = u + v * 128 ^ k := by
        rw [Nat.add_sub_cancel, Nat.add_assoc, Nat.pow_succ, Nat.mul_comm (128 ^ k), ← Nat.mul_assoc, ← Nat.add_mul]
        congr 2
        omega
      rw [he]
      congr 2
      omega

theorem getS_putS (v : Nat) (r : List Nat) (hv : v < 18446744073709551616) : getS (putS v ++ r) = (v, (putS v).length, 0) := by
  have := getF_putF 9 0 0 v r rfl (by omega) (by omega) (by omega)
  simpa [getS, putS] using this

theorem putS_inj {v w : Nat} (hv : v < 18446744073709551616) (hw : w < 18446744073709551616) (h : putS v = putS w) : v = w := by
  have h1 := getS_putS v [] hv
  have h2 := getS_putS w [] hw
  rw [h, h2] at h1
  exact (congrArg Prod.fst h1).symm

theorem getF_prefix : ∀ (f k u v j : Nat), k + f = 9 → j < (putF f v).length → getF k u ((putF f v).take j) = (0, 0, 1)
  | 0, k, u, v, j, _, hj => by
    simp only [putF, List.length_cons, List.length_nil] at hj
    obtain rfl : j = 0 := by omega
    simp [getF]
  | f + 1, k, u, v, j, hk, hj => by
    rw [putF] at hj ⊢
    split
    · rename_i hv
      rw [if_pos hv] at hj
      simp only [List.length_cons, List.length_nil] at hj
      obtain rfl : j = 0 := by omega
      simp [getF]
    · rename_i hv
      rw [if_neg hv, List.length_cons] at hj
      cases j with
      | zero => simp [getF]
      | succ j => rw [List.take_succ_cons, getF_more (by omega) (by omega), getF_prefix f (k + 1) _ (v / 128) j (by omega) (by omega)]

theorem getS_prefix (v j : Nat) (hj : j < (putS v).length) : getS ((putS v).take j) = (0, 0, 1) := getF_prefix 9 0 0 v j rfl hj

/-- The last digit raised by 128, and a digit 0 added. -/
theorem getF_long : ∀ (f k u v x : Nat), k + f = 9 → v < 128 ^ (f + 1) → (putF f v)[(putF f v).length - 1]? = some x → getF k u ((putF f v).set ((putF f v).length - 1) (x + 128) ++ [0]) = (0, 0, 3)
  | 0, k, u, v, x, hk, hv, hx => by
    obtain rfl : k = 9 := by omega
    simp only [putF, List.length_cons, List.length_nil, Nat.zero_add, Nat.sub_self, List.set_cons_zero, List.cons_append, List.nil_append]
    exact getF_bad (by omega)
  | f + 1, k, u, v, x, hk, hv, hx => by
    rw [putF] at hx ⊢
    split
    · rename_i h
      rw [if_pos h] at hx
      simp only [List.length_cons, List.length_nil, Nat.zero_add, Nat.sub_self, List.set_cons_zero, List.cons_append, List.nil_append]
      rw [getF_more (by omega) (by omega)]
      exact getF_bad (by omega)
    · rename_i h
      rw [if_neg h] at hx
      have hp := putF_pos f (v / 128)
      rw [Nat.pow_succ] at hv
      rw [List.length_cons, Nat.add_sub_cancel] at hx ⊢
      obtain ⟨m, hm⟩ : ∃ m, (putF f (v / 128)).length = m + 1 := ⟨_, (Nat.sub_add_cancel hp).symm⟩
      have hx' : (putF f (v / 128))[(putF f (v / 128)).length - 1]? = some x := by
        rw [hm] at hx ⊢
        simpa using hx
      have ih := getF_long f (k + 1) (u + (v % 128 + 128 - 128) * 128 ^ k) (v / 128) x (by omega) (by omega) hx'
      rw [hm] at ih ⊢
      rw [List.set_cons_succ, List.cons_append, getF_more (by omega) (by omega)]
      exact ih

theorem getS_long (v x : Nat) (hv : v < 128 ^ 10) (hx : (putS v)[(putS v).length - 1]? = some x) : getS ((putS v).set ((putS v).length - 1) (x + 128) ++ [0]) = (0, 0, 3) := getF_long 9 0 0 v x rfl hv hx

theorem putF_small (f v : Nat) (h : v < 128) : putF f v = [v] := by
  cases f with
  | zero => rfl
  | succ f => rw [putF, if_pos h]

theorem getF_canon : ∀ (l : List Nat) (k u x n : Nat), (∀ c ∈ l, c < 256) → k ≤ 9 → getF k u l = (x, n, 0) →
    ∃ v, x = u + v * 128 ^ k ∧ (0 < k → 0 < v) ∧ k < n ∧ n ≤ k + l.length ∧ putF (9 - k) v = l.take (n - k)
  | [], k, u, x, n, _, _, h => by simp [getF] at h
  | c :: r, k, u, x, n, hb, hk, h => by
    by_cases h1 : k = 9 ∧ 1 < c ∨ 0 < k ∧ c = 0
    · rw [getF_bad h1] at h
      simp at h
    · by_cases h2 : c < 128
      · rw [getF_last h1 h2] at h
        simp only [Prod.mk.injEq] at h
        obtain ⟨rfl, rfl, _⟩ := h
        refine ⟨c, rfl, by omega, by omega, by simp, ?_⟩
        rw [putF_small _ _ h2, Nat.add_sub_cancel_left]
        rfl
      · rw [getF_more h1 h2] at h
        have hc := hb c (by simp)
        obtain ⟨v, e1, e2, e3, e4, e5⟩ := getF_canon r (k + 1) _ x n (fun d hd => hb d (by simp [hd])) (by omega) h
        have hv := e2 (by omega)
        refine ⟨c - 128 + v * 128, ?_, by omega, by omega, by rw [List.length_cons]; omega, ?_⟩
        · rw [e1, Nat.pow_succ, Nat.mul_comm (128 ^ k), ← Nat.mul_assoc, Nat.add_assoc, ← Nat.add_mul]
        · rw [show 9 - k = (9 - (k + 1)) + 1 by omega, putF, if_neg (by omega), show n - k = (n - (k + 1)) + 1 by omega, List.take_succ_cons, ← e5,
            show (c - 128 + v * 128) / 128 = v by omega]
          congr 1
          omega

theorem getS_canon {l : List Nat} (hb : ∀ c ∈ l, c < 256) {x n : Nat} (h : getS l = (x, n, 0)) : 1 ≤ n ∧ n ≤ l.length ∧ putS x = l.take n := by
  obtain ⟨v, e1, _, e3, e4, e5⟩ := getF_canon l 0 0 x n hb (by omega) h
  simp only [Nat.pow_zero, Nat.mul_one, Nat.zero_add, Nat.sub_zero] at e1 e3 e4 e5
  subst e1
  exact ⟨e3, e4, e5⟩

theorem getF_kinds : ∀ (l : List Nat) (k u : Nat), (∃ x n, getF k u l = (x, n, 0)) ∨ getF k u l = (0, 0, 1) ∨ getF k u l = (0, 0, 3)
  | [], k, u => .inr (.inl rfl)
  | c :: r, k, u => by
    by_cases h1 : k = 9 ∧ 1 < c ∨ 0 < k ∧ c = 0
    · exact .inr (.inr (getF_bad h1))
    · by_cases h2 : c < 128
      · exact .inl ⟨_, _, getF_last h1 h2⟩
      · rw [getF_more h1 h2]
        exact getF_kinds r _ _
theorem getS_kinds (l : List Nat) : (∃ x n, getS l = (x, n, 0)) ∨ getS l = (0, 0, 1) ∨ getS l = (0, 0, 3) := getF_kinds l 0 0

theorem getF_lt : ∀ (l : List Nat) (k u x n : Nat), (∀ c ∈ l, c < 256) → k ≤ 9 → u < 128 ^ k → getF k u l = (x, n, 0) → x < 18446744073709551616
  | [], k, u, x, n, _, _, _, h => by simp [getF] at h
  | c :: r, k, u, x, n, hb, hk, hu, h => by
    have e9 : (128 : Nat) ^ 9 = 9223372036854775808 := by decide
    have e8 : (128 : Nat) ^ 8 = 72057594037927936 := by decide
    by_cases h1 : k = 9 ∧ 1 < c ∨ 0 < k ∧ c = 0
    · rw [getF_bad h1] at h
      simp at h
    · by_cases h2 : c < 128
      · rw [getF_last h1 h2] at h
        simp only [Prod.mk.injEq] at h
        obtain ⟨rfl, rfl, _⟩ := h
        by_cases h9 : k = 9
        · subst h9
          have : c ≤ 1 := by omega
          rw [e9] at hu ⊢
          omega
        · have : 128 ^ k ≤ 128 ^ 8 := Nat.pow_le_pow_right (by omega) (by omega)
          have : c * 128 ^ k ≤ 127 * 128 ^ k := Nat.mul_le_mul_right _ (by omega)
          omega
      · rw [getF_more h1 h2] at h
        have hc := hb c (by simp)
        refine getF_lt r (k + 1) _ x n (fun d hd => hb d (by simp [hd])) (by omega) ?_ h
        have : (c - 128) * 128 ^ k ≤ 127 * 128 ^ k := Nat.mul_le_mul_right _ (by omega)
        rw [Nat.pow_succ]
        omega
theorem getS_lt {l : List Nat} (hb : ∀ c ∈ l, c < 256) {x n : Nat} (h : getS l = (x, n, 0)) : x < 18446744073709551616 := getF_lt l 0 0 x n hb (by omega) (by simp) h

end Go.Proofs.Ytgipdebkikldaaa
