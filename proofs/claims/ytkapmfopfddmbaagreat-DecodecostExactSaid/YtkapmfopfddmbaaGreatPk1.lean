import Derived.Laws.BitsAllLaws
import Derived.Laws.Bits128
import Derived.Test.YtkapmfopfddmbaaGreatRows
import Derived.WalkKit
import Derived.WalkSpells
import Derived.WalkLawsBesides
import Derived.Lib.Hide
import Derived.Deep.AppendLies
import Derived.Maps.AppendAt
import Derived.LoopTactic
import Derived.Below
import Derived.Lib.LaidTab
import Derived.LaidMore
import Derived.OpenShut
import Derived.Deep.QuietTactic
import Derived.BigQuiet
import Derived.Deep.RegionWith
import Derived.Deep.RegionHeld3
import Derived.Deep.RegionHeldLaw

/-
  The plain mathematics of layer 1: what decoding and encoding compute, as functions on lists of numbers. No program.
-/
namespace Go.Proofs.YtkapmfopfddmbaaGreat

/-- What is decoded: from byte k on, v being the value of the bytes before. -/
def getF (k v : Nat) : List Nat → Nat × Nat × Nat
  | [] => (0, 0, 1)
  | c :: r => if k = 9 ∧ 1 < c ∨ 0 < k ∧ c = 0 then (0, 0, 3) else if c < 128 then (v + c * 128 ^ k, k + 1, 0) else getF (k + 1) (v + (c - 128) * 128 ^ k) r

def getS (l : List Nat) : Nat × Nat × Nat := getF 0 0 l

/-- What is encoded (f: how many digits may still follow). -/
def putF : Nat → Nat → List Nat
  | 0, v => [v]
  | f + 1, v => if v < 128 then [v] else (v % 128 + 128) :: putF f (v / 128)

def putS (v : Nat) : List Nat := putF 9 v

theorem getF_bad {k v c : Nat} {r : List Nat} (h : k = 9 ∧ 1 < c ∨ 0 < k ∧ c = 0) : getF k v (c :: r) = (0, 0, 3) := by rw [getF, if_pos h]

theorem getF_last {k v c : Nat} {r : List Nat} (h : ¬ (k = 9 ∧ 1 < c ∨ 0 < k ∧ c = 0)) (hc : c < 128) : getF k v (c :: r) = (v + c * 128 ^ k, k + 1, 0) := by rw [getF, if_neg h, if_pos hc]

theorem getF_more {k v c : Nat} {r : List Nat} (h : ¬ (k = 9 ∧ 1 < c ∨ 0 < k ∧ c = 0)) (hc : ¬ c < 128) : getF k v (c :: r) = getF (k + 1) (v + (c - 128) * 128 ^ k) r := by rw [getF, if_neg h, if_neg hc]

/-- How the head of a loop over l stands: k bytes done, their value v. -/
def GetAt (l : List Nat) (k v : Nat) : Prop := getS l = getF k v (l.drop k) ∧ v < 128 ^ k ∧ k ≤ 9

theorem GetAt.zero (l : List Nat) : GetAt l 0 0 := ⟨by simp [getS], by simp, by omega⟩

theorem drop_cons {l : List Nat} {k : Nat} (h : k < l.length) : l.drop k = l[k] :: l.drop (k + 1) := (List.getElem_cons_drop h).symm

theorem GetAt.bad {l : List Nat} {k v : Nat} (h : GetAt l k v) (hk : k < l.length) (hb : k = 9 ∧ 1 < l[k] ∨ 0 < k ∧ l[k] = 0) : getS l = (0, 0, 3) := by
  rw [h.1, drop_cons hk, getF_bad hb]

theorem GetAt.last {l : List Nat} {k v : Nat} (h : GetAt l k v) (hk : k < l.length) (hb : ¬ (k = 9 ∧ 1 < l[k] ∨ 0 < k ∧ l[k] = 0)) (hc : l[k] < 128) : getS l = (v + l[k] * 128 ^ k, k + 1, 0) := by
  rw [h.1, drop_cons hk, getF_last hb hc]

theorem GetAt.more {l : List Nat} {k v : Nat} (h : GetAt l k v) (hk : k < l.length) (hb : ¬ (k = 9 ∧ 1 < l[k] ∨ 0 < k ∧ l[k] = 0)) (hc : ¬ l[k] < 128) (hx : l[k] < 256) :
    GetAt l (k + 1) (v + (l[k] - 128) * 128 ^ k) := by
  obtain ⟨h1, h2, h3⟩ := h
  refine ⟨by rw [h1, drop_cons hk, getF_more hb hc], ?_, by omega⟩
  have : (l[k] - 128) * 128 ^ k ≤ 127 * 128 ^ k := Nat.mul_le_mul_right _ (by omega)
  rw [Nat.pow_succ]
  omega

theorem GetAt.short {l : List Nat} {k v : Nat} (h : GetAt l k v) (hk : ¬ k < l.length) : getS l = (0, 0, 1) := by
  rw [h.1, List.drop_eq_nil_of_le (by omega), getF]

theorem and127 (x : Nat) (hx : x < 256) : bits .and .u8 (x : Int) 127 = ((x % 128 : Nat) : Int) := by
  have := u8_and_nat x 127 hx (by omega)
  rw [nat_mask7] at this
  exact this

theorem pow7 (k : Nat) : (2 : Int) ^ (7 * k) = ((128 ^ k : Nat) : Int) := by
  rw [Int.pow_mul, Int.natCast_pow]
  rfl

theorem or_step {u x k : Nat} (hk : k ≤ 9) (hu : u < 128 ^ k) (hx : x < 256) (h9 : k = 9 → x % 128 ≤ 1) :
    bits .or .u64 (u : Int) (IntKind.u64.wrap (IntKind.u64.wrap (bits .and .u8 (x : Int) 127) * 2 ^ (7 * k))) = ((u + x % 128 * 128 ^ k : Nat) : Int) := by
  have hp : 128 ^ k ≤ 128 ^ 9 := Nat.pow_le_pow_right (by omega) hk
  have hq : x % 128 * 128 ^ k + 128 ^ k ≤ 18446744073709551616 := by
    by_cases h : k = 9
    · subst h
      have := h9 rfl
      have e : (128 : Nat) ^ 9 = 9223372036854775808 := by decide
      rw [e]
      omega
    · have h8 : 128 ^ k ≤ 128 ^ 8 := Nat.pow_le_pow_right (by omega) (by omega)
      have e : (128 : Nat) ^ 8 = 72057594037927936 := by decide
      have : x % 128 * 128 ^ k ≤ 127 * 128 ^ k := Nat.mul_le_mul_right _ (by omega)
      omega
  have hpos : 0 < 128 ^ k := Nat.pow_pos (by omega)
  rw [and127 x hx, pow7]
  have e1 : IntKind.u64.wrap ((x % 128 : Nat) : Int) = ((x % 128 : Nat) : Int) := by rw [IntKind.wrap_u64]; omega
  rw [e1, ← Int.natCast_mul]
  have e2 : IntKind.u64.wrap ((x % 128 * 128 ^ k : Nat) : Int) = ((x % 128 * 128 ^ k : Nat) : Int) := by
    rw [IntKind.wrap_u64]
    omega
  rw [e2, u64_or_nat _ _ (by omega) (by omega)]
  congr 1
  have e3 : (128 : Nat) ^ k = 2 ^ (7 * k) := by rw [Nat.pow_mul]
  rw [Nat.or_comm, nat_join (7 * k) _ _ (by rw [← e3]; exact Nat.mul_mod_left _ _) (by rw [← e3]; exact hu)]
  omega

theorem mul_last {u x k q : Nat} (hk : k ≤ 9) (hu : u < 128 ^ k) (hx : x < 128) (h9 : k = 9 → x ≤ 1) (hq : q = 128 ^ k) :
    IntKind.u64.wrap ((u : Int) + IntKind.u64.wrap ((x : Int) * (q : Int))) = ((u + x * 128 ^ k : Nat) : Int) := by
  subst hq
  have hp : 128 ^ k ≤ 128 ^ 9 := Nat.pow_le_pow_right (by omega) hk
  have hb : x * 128 ^ k + 128 ^ k ≤ 18446744073709551616 := by
    by_cases h : k = 9
    · subst h
      have := h9 rfl
      have e : (128 : Nat) ^ 9 = 9223372036854775808 := by decide
      rw [e]
      omega
    · have h8 : 128 ^ k ≤ 128 ^ 8 := Nat.pow_le_pow_right (by omega) (by omega)
      have e : (128 : Nat) ^ 8 = 72057594037927936 := by decide
      have : x * 128 ^ k ≤ 127 * 128 ^ k := Nat.mul_le_mul_right _ (by omega)
      omega
  rw [← Int.natCast_mul, IntKind.wrap_u64, IntKind.wrap_u64]
  omega

theorem mul_more {u x k q : Nat} (hk : k < 9) (hu : u < 128 ^ k) (hx : 128 ≤ x) (hx' : x < 256) (hq : q = 128 ^ k) :
    IntKind.u64.wrap ((u : Int) + IntKind.u64.wrap (((x : Int) - 128) * (q : Int))) = ((u + (x - 128) * 128 ^ k : Nat) : Int) := by
  have := mul_last (x := x - 128) (by omega) hu (by omega) (by omega) hq
  rwa [show ((x - 128 : Nat) : Int) = (x : Int) - 128 by omega] at this

theorem pow_more {k q : Nat} (hk : k < 9) (hq : q = 128 ^ k) : IntKind.u64.wrap ((q : Int) * 128) = ((128 ^ (k + 1) : Nat) : Int) := by
  subst hq
  have h8 : 128 ^ k ≤ 128 ^ 8 := Nat.pow_le_pow_right (by omega) (by omega)
  have e : (128 : Nat) ^ 8 = 72057594037927936 := by decide
  rw [IntKind.wrap_u64, Nat.pow_succ]
  omega

/-- The eight ways through a round of decoding. -/
theorem ways8 (k x : Nat) (hk : k ≤ 9) : (k = 9 ∧ 1 < x) ∨ (k = 9 ∧ x = 0) ∨ (k = 9 ∧ x = 1) ∨ (0 < k ∧ k < 9 ∧ x = 0) ∨ (0 < k ∧ k < 9 ∧ 0 < x ∧ x < 128) ∨ (0 < k ∧ k < 9 ∧ 128 ≤ x) ∨ (k = 0 ∧ x < 128) ∨ (k = 0 ∧ 128 ≤ x) := by omega

theorem putF_pos : ∀ (f v : Nat), 1 ≤ (putF f v).length
  | 0, _ => by simp [putF]
  | f + 1, v => by
    rw [putF]
    split <;> simp

theorem putF_le : ∀ (f v : Nat), (putF f v).length ≤ f + 1
  | 0, _ => by simp [putF]
  | f + 1, v => by
    have := putF_le f (v / 128)
    rw [putF]
    split <;> simp only [List.length_cons, List.length_nil] <;> omega

theorem putF_lt : ∀ (f v : Nat), v < 128 ^ (f + 1) → v < 128 ^ (putF f v).length
  | 0, v, h => by simpa [putF] using h
  | f + 1, v, h => by
    rw [Nat.pow_succ] at h
    have := putF_lt f (v / 128) (by omega)
    rw [putF]
    split
    · simpa using ‹v < 128›
    · rw [List.length_cons, Nat.pow_succ]
      omega

theorem putF_ge : ∀ (f v : Nat), (putF f v).length = 1 ∨ 128 ^ ((putF f v).length - 1) ≤ v
  | 0, _ => .inl (by simp [putF])
  | f + 1, v => by
    rw [putF]
    split
    · exact .inl rfl
    · refine .inr ?_
      have hp := putF_pos f (v / 128)
      rw [List.length_cons, Nat.add_sub_cancel]
      rcases putF_ge f (v / 128) with h | h
      · rw [h]
        omega
      · rw [show (putF f (v / 128)).length = ((putF f (v / 128)).length - 1) + 1 by omega, Nat.pow_succ]
        omega

theorem putF_get : ∀ (f v j : Nat), v < 128 ^ (f + 1) → j < (putF f v).length →
    (putF f v)[j]? = some (v / 128 ^ j % 128 + if j + 1 < (putF f v).length then 128 else 0)
  | 0, v, j, h, hj => by
    simp only [putF, List.length_cons, List.length_nil, Nat.zero_add, Nat.lt_one_iff] at hj
    subst hj
    simp only [putF, List.length_cons, List.length_nil]
    have : v % 128 = v := Nat.mod_eq_of_lt (by simpa using h)
    simp [this]
  | f + 1, v, j, h, hj => by
    have hp := putF_pos f (v / 128)
    rw [Nat.pow_succ] at h
    rw [putF] at hj ⊢
    split
    · rename_i hv
      rw [if_pos hv] at hj
      simp only [List.length_cons, List.length_nil, Nat.zero_add, Nat.lt_one_iff] at hj
      subst hj
      have : v % 128 = v := Nat.mod_eq_of_lt hv
      simp [this]
    · rename_i hv
      rw [if_neg hv, List.length_cons] at hj
      cases j with
      | zero => rw [List.getElem?_cons_zero, List.length_cons, if_pos (by omega), Nat.pow_zero, Nat.div_one]
      | succ j =>
        have := putF_get f (v / 128) j (by omega) (by omega)
        rw [List.getElem?_cons_succ, this, Nat.div_div_eq_div_mul, Nat.pow_succ, Nat.mul_comm 128, List.length_cons]
        simp only [Nat.add_lt_add_iff_right]

theorem putS_pos (v : Nat) : 1 ≤ (putS v).length := putF_pos 9 v

theorem putS_le (v : Nat) : (putS v).length ≤ 10 := putF_le 9 v

theorem putS_lt (v : Nat) (h : v < 128 ^ 10) : v < 128 ^ (putS v).length := putF_lt 9 v h

theorem putS_ge (v : Nat) : (putS v).length = 1 ∨ 128 ^ ((putS v).length - 1) ≤ v := putF_ge 9 v

theorem putS_get (v j : Nat) (h : v < 128 ^ 10) (hj : j < (putS v).length) : (putS v)[j]? = some (v / 128 ^ j % 128 + if j + 1 < (putS v).length then 128 else 0) := putF_get 9 v j h hj

theorem putS_byt (v : Nat) (h : v < 128 ^ 10) : ∀ x ∈ putS v, x < 256 := by
  intro x hx
  obtain ⟨j, hj⟩ := List.mem_iff_getElem?.1 hx
  have hl : j < (putS v).length := (List.getElem?_eq_some_iff.1 hj).1
  rw [putS_get v j h hl] at hj
  injection hj with hj
  split at hj <;> omega

end Go.Proofs.YtkapmfopfddmbaaGreat

/-
  The plain mathematics of layer 1, second part: what is encoded is decoded, whatever follows; what is decoded is the encoding; prefixes and added zero digits are rejected.
-/
namespace Go.Proofs.YtkapmfopfddmbaaGreat

theorem getF_putF : ∀ (f k u v : Nat) (r : List Nat), k + f = 9 → v * 128 ^ k < 18446744073709551616 → v < 128 ^ (f + 1) → (0 < k → 0 < v) →
    getF k u (putF f v ++ r) = (u + v * 128 ^ k, k + (putF f v).length, 0)
  | 0, k, u, v, r, hk, hv, hf, h0 => by
    obtain rfl : k = 9 := by omega
    have e : (128 : Nat) ^ 9 = 9223372036854775808 := by decide
    have h1 : v < 128 := by simpa using hf
    have h2 := h0 (by omega)
    rw [e] at hv
    rw [putF, List.singleton_append, getF_last (by omega) h1]
    rfl
  | f + 1, k, u, v, r, hk, hv, hf, h0 => by
    rw [putF]
    split
    · rw [List.singleton_append, getF_last (by omega) (by assumption)]
      rfl
    · have hq : v / 128 * 128 ^ (k + 1) ≤ v * 128 ^ k := by
        rw [Nat.pow_succ, Nat.mul_comm (128 ^ k), ← Nat.mul_assoc]
        exact Nat.mul_le_mul_right _ (Nat.div_mul_le_self v 128)
      rw [Nat.pow_succ] at hf
      have ih := getF_putF f (k + 1) (u + (v % 128 + 128 - 128) * 128 ^ k) (v / 128) r (by omega) (by omega) (by omega) (by omega)
      rw [List.cons_append, getF_more (by omega) (by omega), ih, List.length_cons]
      have he : u + (v % 128 + 128 - 128) * 128 ^ k + v / 128 * 128 ^ (k + 1) = u + v * 128 ^ k := by
        rw [Nat.add_sub_cancel, Nat.add_assoc, Nat.pow_succ, Nat.mul_comm (128 ^ k), ← Nat.mul_assoc, ← Nat.add_mul]
        congr 2
        omega
      rw [he]
      congr 2
      omega

theorem getS_putS (v : Nat) (r : List Nat) (hv : v < 18446744073709551616) : getS (putS v ++ r) = (v, (putS v).length, 0) := by
  have := getF_putF 9 0 0 v r rfl (by omega) (by omega) (by omega)
  simpa [getS, putS] using this

theorem putS_inj {v w : Nat} (hv : v < 18446744073709551616) (hw : w < 18446744073709551616) (h : putS v = putS w) : v = w := by
  have h1 := getS_putS v [] hv
  have h2 := getS_putS w [] hw
  rw [h, h2] at h1
  exact (congrArg Prod.fst h1).symm

theorem getF_prefix : ∀ (f k u v j : Nat), k + f = 9 → j < (putF f v).length → getF k u ((putF f v).take j) = (0, 0, 1)
  | 0, k, u, v, j, _, hj => by
    simp only [putF, List.length_cons, List.length_nil] at hj
    obtain rfl : j = 0 := by omega
    simp [getF]
  | f + 1, k, u, v, j, hk, hj => by
    rw [putF] at hj ⊢
    split
    · rename_i hv
      rw [if_pos hv] at hj
      simp only [List.length_cons, List.length_nil] at hj
      obtain rfl : j = 0 := by omega
      simp [getF]
    · rename_i hv
      rw [if_neg hv, List.length_cons] at hj
      cases j with
      | zero => simp [getF]
      | succ j => rw [List.take_succ_cons, getF_more (by omega) (by omega), getF_prefix f (k + 1) _ (v / 128) j (by omega) (by omega)]

theorem getS_prefix (v j : Nat) (hj : j < (putS v).length) : getS ((putS v).take j) = (0, 0, 1) := getF_prefix 9 0 0 v j rfl hj

/-- The last digit raised by 128, and a digit 0 added. -/
theorem getF_long : ∀ (f k u v x : Nat), k + f = 9 → v < 128 ^ (f + 1) → (putF f v)[(putF f v).length - 1]? = some x → getF k u ((putF f v).set ((putF f v).length - 1) (x + 128) ++ [0]) = (0, 0, 3)
  | 0, k, u, v, x, hk, hv, hx => by
    obtain rfl : k = 9 := by omega
    simp only [putF, List.length_cons, List.length_nil, Nat.zero_add, Nat.sub_self, List.set_cons_zero, List.cons_append, List.nil_append]
    exact getF_bad (by omega)
  | f + 1, k, u, v, x, hk, hv, hx => by
    rw [putF] at hx ⊢
    split
    · rename_i h
      rw [if_pos h] at hx
      simp only [List.length_cons, List.length_nil, Nat.zero_add, Nat.sub_self, List.set_cons_zero, List.cons_append, List.nil_append]
      rw [getF_more (by omega) (by omega)]
      exact getF_bad (by omega)
    · rename_i h
      rw [if_neg h] at hx
      have hp := putF_pos f (v / 128)
      rw [Nat.pow_succ] at hv
      rw [List.length_cons, Nat.add_sub_cancel] at hx ⊢
      obtain ⟨m, hm⟩ : ∃ m, (putF f (v / 128)).length = m + 1 := ⟨_, (Nat.sub_add_cancel hp).symm⟩
      have hx' : (putF f (v / 128))[(putF f (v / 128)).length - 1]? = some x := by
        rw [hm] at hx ⊢
        simpa using hx
      have ih := getF_long f (k + 1) (u + (v % 128 + 128 - 128) * 128 ^ k) (v / 128) x (by omega) (by omega) hx'
      rw [hm] at ih ⊢
      rw [List.set_cons_succ, List.cons_append, getF_more (by omega) (by omega)]
      exact ih

theorem getS_long (v x : Nat) (hv : v < 128 ^ 10) (hx : (putS v)[(putS v).length - 1]? = some x) : getS ((putS v).set ((putS v).length - 1) (x + 128) ++ [0]) = (0, 0, 3) := getF_long 9 0 0 v x rfl hv hx

theorem putF_small (f v : Nat) (h : v < 128) : putF f v = [v] := by
  cases f with
  | zero => rfl
  | succ f => rw [putF, if_pos h]

theorem getF_canon : ∀ (l : List Nat) (k u x n : Nat), (∀ c ∈ l, c < 256) → k ≤ 9 → getF k u l = (x, n, 0) →
    ∃ v, x = u + v * 128 ^ k ∧ (0 < k → 0 < v) ∧ k < n ∧ n ≤ k + l.length ∧ putF (9 - k) v = l.take (n - k)
  | [], k, u, x, n, _, _, h => by simp [getF] at h
  | c :: r, k, u, x, n, hb, hk, h => by
    by_cases h1 : k = 9 ∧ 1 < c ∨ 0 < k ∧ c = 0
    · rw [getF_bad h1] at h
      simp at h
    · by_cases h2 : c < 128
      · rw [getF_last h1 h2] at h
        simp only [Prod.mk.injEq] at h
        obtain ⟨rfl, rfl, _⟩ := h
        refine ⟨c, rfl, by omega, by omega, by simp, ?_⟩
        rw [putF_small _ _ h2, Nat.add_sub_cancel_left]
        rfl
      · rw [getF_more h1 h2] at h
        have hc := hb c (by simp)
        obtain ⟨v, e1, e2, e3, e4, e5⟩ := getF_canon r (k + 1) _ x n (fun d hd => hb d (by simp [hd])) (by omega) h
        have hv := e2 (by omega)
        refine ⟨c - 128 + v * 128, ?_, by omega, by omega, by rw [List.length_cons]; omega, ?_⟩
        · rw [e1, Nat.pow_succ, Nat.mul_comm (128 ^ k), ← Nat.mul_assoc, Nat.add_assoc, ← Nat.add_mul]
        · rw [show 9 - k = (9 - (k + 1)) + 1 by omega, putF, if_neg (by omega), show n - k = (n - (k + 1)) + 1 by omega, List.take_succ_cons, ← e5,
            show (c - 128 + v * 128) / 128 = v by omega]
          congr 1
          omega

theorem getS_canon {l : List Nat} (hb : ∀ c ∈ l, c < 256) {x n : Nat} (h : getS l = (x, n, 0)) : 1 ≤ n ∧ n ≤ l.length ∧ putS x = l.take n := by
  obtain ⟨v, e1, _, e3, e4, e5⟩ := getF_canon l 0 0 x n hb (by omega) h
  simp only [Nat.pow_zero, Nat.mul_one, Nat.zero_add, Nat.sub_zero] at e1 e3 e4 e5
  subst e1
  exact ⟨e3, e4, e5⟩

theorem getF_kinds : ∀ (l : List Nat) (k u : Nat), (∃ x n, getF k u l = (x, n, 0)) ∨ getF k u l = (0, 0, 1) ∨ getF k u l = (0, 0, 3)
  | [], k, u => .inr (.inl rfl)
  | c :: r, k, u => by
    by_cases h1 : k = 9 ∧ 1 < c ∨ 0 < k ∧ c = 0
    · exact .inr (.inr (getF_bad h1))
    · by_cases h2 : c < 128
      · exact .inl ⟨_, _, getF_last h1 h2⟩
      · rw [getF_more h1 h2]
        exact getF_kinds r _ _

theorem getS_kinds (l : List Nat) : (∃ x n, getS l = (x, n, 0)) ∨ getS l = (0, 0, 1) ∨ getS l = (0, 0, 3) := getF_kinds l 0 0

theorem getF_lt : ∀ (l : List Nat) (k u x n : Nat), (∀ c ∈ l, c < 256) → k ≤ 9 → u < 128 ^ k → getF k u l = (x, n, 0) → x < 18446744073709551616
  | [], k, u, x, n, _, _, _, h => by simp [getF] at h
  | c :: r, k, u, x, n, hb, hk, hu, h => by
    have e9 : (128 : Nat) ^ 9 = 9223372036854775808 := by decide
    have e8 : (128 : Nat) ^ 8 = 72057594037927936 := by decide
    by_cases h1 : k = 9 ∧ 1 < c ∨ 0 < k ∧ c = 0
    · rw [getF_bad h1] at h
      simp at h
    · by_cases h2 : c < 128
      · rw [getF_last h1 h2] at h
        simp only [Prod.mk.injEq] at h
        obtain ⟨rfl, rfl, _⟩ := h
        by_cases h9 : k = 9
        · subst h9
          have : c ≤ 1 := by omega
          rw [e9] at hu ⊢
          omega
        · have : 128 ^ k ≤ 128 ^ 8 := Nat.pow_le_pow_right (by omega) (by omega)
          have : c * 128 ^ k ≤ 127 * 128 ^ k := Nat.mul_le_mul_right _ (by omega)
          omega
      · rw [getF_more h1 h2] at h
        have hc := hb c (by simp)
        refine getF_lt r (k + 1) _ x n (fun d hd => hb d (by simp [hd])) (by omega) ?_ h
        have : (c - 128) * 128 ^ k ≤ 127 * 128 ^ k := Nat.mul_le_mul_right _ (by omega)
        rw [Nat.pow_succ]
        omega

theorem getS_lt {l : List Nat} (hb : ∀ c ∈ l, c < 256) {x n : Nat} (h : getS l = (x, n, 0)) : x < 18446744073709551616 := getF_lt l 0 0 x n hb (by omega) (by simp) h

end Go.Proofs.YtkapmfopfddmbaaGreat

/-
  Words for memory, used by all later files of this seat: a slice whose elements read as a given list of cells, and bytes as cells.
-/
namespace Go.Proofs.YtkapmfopfddmbaaGreat
open Go.RowKit

theorem ret1 {k : IntKind} {a b : Int} (h : a = b) : Ending.returned (.int k a) = .returned (.int k b) := by rw [h]

theorem retb {p : Prop} [Decidable p] (h : p) : Ending.returned (.bool (decide p)) = .returned (.bool true) := by rw [decide_eq_true h]

theorem tup3 {k1 k2 k3 : IntKind} {a b c a' b' c' : Int} (h1 : a = a') (h2 : b = b') (h3 : c = c') :
    Ending.returned (.tuple #[.int k1 a, .int k2 b, .int k3 c]) = .returned (.tuple #[.int k1 a', .int k2 b', .int k3 c']) := by rw [h1, h2, h3]

theorem blw_drewN {B : Nat} {a w : World} (h : Below B a w) (n : Nat) : Below B a (w.drewN n) := ⟨h.os, h.tape, h.output, h.size, h.block⟩

/-- A step from a world that has drawn is a step from the world itself. -/
theorem below_un {B B' : Nat} {a w : World} (h : Below B a.drew w) (hB : B' ≤ B) : Below B' a w := ⟨h.os, h.tape, h.output, h.size, fun k hk => h.block k (Nat.lt_of_lt_of_le hk hB)⟩

theorem below_unN {B B' : Nat} {a w : World} {n : Nat} (h : Below B (a.drewN n) w) (hB : B' ≤ B) : Below B' a w := ⟨h.os, h.tape, h.output, h.size, fun k hk => h.block k (Nat.lt_of_lt_of_le hk hB)⟩

/-- Bytes as cells. -/
def bts (l : List Nat) : List Value := l.map fun (x : Nat) => Value.int .u8 (x : Int)

def Byt (l : List Nat) : Prop := ∀ x ∈ l, x < 256

theorem bts_length (l : List Nat) : (bts l).length = l.length := by simp [bts]

theorem bts_get (l : List Nat) (i : Nat) : (bts l)[i]? = (l[i]?).map fun (x : Nat) => Value.int .u8 (x : Int) := by simp [bts]

theorem bts_append (l r : List Nat) : bts (l ++ r) = bts l ++ bts r := by simp [bts]

theorem bts_one (l : List Nat) : ∀ u ∈ bts l, u.oneCell' = true := by
  intro u hu
  obtain ⟨_, _, rfl⟩ := List.mem_map.1 hu
  rfl

theorem one_new {w : World} {e : TypeId} {x : Nat} {z : Int} (h : z = x) : ∀ j u, (bts [x])[j]? = some u →
    (w.alloc (.cells #[.int .u8 z] e)).cell? ((⟨w.heap.size, 0, none⟩ : Addr).add j) = some u := by
  subst h
  exact cell_one_new w _ e

theorem bts_ne {l : List Nat} {k : Nat} (h : k < l.length) : bts l ≠ [] := by
  intro e
  have := congrArg List.length e
  rw [bts_length] at this
  simp only [List.length_nil] at this
  omega

/-- The slice address A shows the cells xs, below block B. -/
def Sees (w : World) (B : Nat) (A : Option Addr) (xs : List Value) : Prop :=
  xs ≠ [] → ∃ b o, A = some ⟨b, o, none⟩ ∧ b < B ∧ ∀ i u, xs[i]? = some u → w.cell? ⟨b, o + i, none⟩ = some u

section
variable {w w' : World} {B B' : Nat} {A : Option Addr} {xs : List Value}

theorem Sees.nil : Sees w B A [] := fun h => absurd rfl h

theorem Sees.keep (h : Sees w B A xs) (hk : ∀ p : Addr, p.block < B → w'.cell? p = w.cell? p) : Sees w' B A xs := fun hn => by
  obtain ⟨b, o, e, hb, hc⟩ := h hn
  exact ⟨b, o, e, hb, fun i u hu => (hk _ hb).trans (hc i u hu)⟩

theorem Sees.more (h : Sees w B A xs) (hB : B ≤ B') : Sees w B' A xs := fun hn => by
  obtain ⟨b, o, e, hb, hc⟩ := h hn
  exact ⟨b, o, e, by omega, hc⟩

theorem Sees.below (h : Sees w B A xs) (hb : Below B w w') : Sees w' B A xs := h.keep fun _ hp => hb.cell hp

theorem Sees.drew (h : Sees w B A xs) : Sees w.drew B A xs := h

theorem Sees.drewN (h : Sees w B A xs) (k : Nat) : Sees (w.drewN k) B A xs := h

theorem Sees.alloc (h : Sees w B A xs) (hB : B ≤ w.heap.size) (o : Obj) : Sees (w.alloc o) B A xs := h.keep fun p hp => World.cell?_alloc_lt w o p (by omega)

theorem Sees.setCell (h : Sees w B A xs) {p : Addr} (hB : B ≤ p.block) (u : Value) : Sees (w.setCell p u) B A xs :=
  h.keep fun q hq => World.cell?_setCell_other w p q u (fun e => by subst e; omega)

theorem Sees.of_own {base n c : Nat} {e : TypeId} (h : w.ownsRow base e 1 (.slice A n c) n xs) : Sees w w.heap.size A xs := fun hn => by
  rcases h.2 with ⟨h0, h1⟩ | ⟨g, cap, cur, hv, _, hg, _⟩
  · exact absurd (List.eq_nil_of_length_eq_zero (by have := h.1; omega)) hn
  · injection hv with hA
    subst hA
    refine ⟨g, 0, rfl, (Array.getElem?_eq_some_iff.1 hg).1, fun i u hu => ?_⟩
    have := h.cells (g := g) rfl i u hu
    simpa [Addr.add_lit] using this

theorem own_cap {base n c : Nat} {e : TypeId} {a : Addr} (h : w.ownsRow base e 1 (.slice (some a) n c) n xs) : n ≤ c ∧ c ≤ maxLen := by
  rcases h.2 with ⟨h0, _⟩ | ⟨g, cap, cur, hv, _, _, h1, h2, _⟩
  · cases h0
  · injection hv with _ _ hc
    subst hc
    exact ⟨h1, h2⟩

/-- The cut `s[lo:hi]` of a slice that is seen: its address as the model writes it. -/
theorem Sees.drop {k cap : Nat} (h : Sees w B A xs) (hc : xs.length ≤ cap) :
    Sees w B (if cap = k then A else A.map (·.add k)) (xs.drop k) := fun hn => by
  have hl : k < xs.length := by
    rcases Nat.lt_or_ge k xs.length with h1 | h1
    · exact h1
    · exact absurd (List.drop_eq_nil_of_le h1) hn
  obtain ⟨b, o, rfl, hb, hcell⟩ := h (by intro e; subst e; simp at hl)
  rw [if_neg (by omega)]
  refine ⟨b, o + k, by simp [Addr.add_lit], hb, fun i u hu => ?_⟩
  rw [List.getElem?_drop] at hu
  have := hcell _ u hu
  rwa [← Nat.add_assoc] at this

theorem Sees.take {k : Nat} (h : Sees w B A xs) : Sees w B A (xs.take k) := fun hn => by
  obtain ⟨b, o, e, hb, hc⟩ := h (by intro e; subst e; simp at hn)
  refine ⟨b, o, e, hb, fun i u hu => hc i u ?_⟩
  rw [List.getElem?_take] at hu
  split at hu
  · exact hu
  · cases hu

end

/-- A slice of integers as the statements' frame hands it over: nil, or the numbers zs up to the capacity. -/
def IsRow (k : IntKind) (w : World) (a : Option Addr) (len cap : Nat) (zs : List Int) : Prop :=
  (a = none ∧ len = 0 ∧ cap = 0 ∧ zs = []) ∨
  ∃ x, a = some x ∧ len ≤ cap ∧ cap ≤ maxLen ∧ zs.length = cap ∧ (∀ i, i < zs.length → w.cell? (x.add i) = some (.int k (zs.getD i 0))) ∧ ∀ n ∈ zs, (Lit.int k n).wf = true

/-- A byte slice that came in: its elements as a list. -/
theorem IsRow.bytes {w : World} {a : Option Addr} {len cap : Nat} {zs : List Int} (h : IsRow .u8 w a len cap zs) :
    ∃ l : List Nat, l.length = len ∧ Byt l ∧ Sees w w.heap.size a (bts l) ∧ len ≤ cap ∧ cap ≤ maxLen := by
  rcases h with ⟨rfl, rfl, rfl, rfl⟩ | ⟨x, rfl, h1, h2, h3, h4, h5⟩
  · exact ⟨[], rfl, by simp [Byt], Sees.nil, Nat.le_refl _, Nat.zero_le _⟩
  · have hw : ∀ n ∈ zs, 0 ≤ n ∧ n < 256 := fun n hn => by
      have := h5 n hn
      simp [Lit.wf, IntKind.min, IntKind.max, IntKind.signed, IntKind.bits] at this
      omega
    refine ⟨(zs.take len).map Int.toNat, by simp; omega, ?_, fun hn => ?_, h1, h2⟩
    · intro y hy
      obtain ⟨n, hn, rfl⟩ := List.mem_map.1 hy
      have := hw n (List.mem_of_mem_take hn)
      omega
    · have hl : 0 < len := by
        rcases Nat.eq_zero_or_pos len with h0 | h0
        · subst h0; simp [bts] at hn
        · exact h0
      have hc0 := h4 0 (by omega)
      obtain ⟨b, o, s⟩ := x
      have hs : s = none := by simpa [Addr.add] using World.cell?_spot hc0
      subst hs
      refine ⟨b, o, rfl, World.block_lt_of_cell? w _ (by simpa [Addr.add] using hc0), fun i u hu => ?_⟩
      rw [bts_get] at hu
      have hi : i < len := by
        rcases Nat.lt_or_ge i len with h0 | h0
        · exact h0
        · rw [List.getElem?_eq_none (by simp; omega)] at hu; cases hu
      have hz : i < zs.length := by omega
      have := h4 i hz
      rw [Addr.add_lit] at this
      rw [this, ← hu]
      have hb := hw zs[i] (List.getElem_mem hz)
      simp [hi, hz, List.getD]
      omega

theorem u64_of_wf {x : Int} (h : (Lit.int .u64 x).wf = true) : 0 ≤ x ∧ x ≤ 18446744073709551615 := by
  simp [Lit.wf, IntKind.min, IntKind.max, IntKind.signed, IntKind.bits] at h
  omega

theorem u8_of_wf {x : Int} (h : (Lit.int .u8 x).wf = true) : 0 ≤ x ∧ x ≤ 255 := by
  simp [Lit.wf, IntKind.min, IntKind.max, IntKind.signed, IntKind.bits] at h
  omega

theorem i64_of_wf {x : Int} (h : (Lit.int .i64 x).wf = true) : -9223372036854775808 ≤ x ∧ x ≤ 9223372036854775807 := by
  simp [Lit.wf, IntKind.min, IntKind.max, IntKind.signed, IntKind.bits] at h
  omega

end Go.Proofs.YtkapmfopfddmbaaGreat

/-
  The zigzag code: the program's functions and the reference's return what zz and uz compute.
-/
namespace Go.Proofs.YtkapmfopfddmbaaGreat
open Go.RowKit

def zz (n : Int) : Int := if 0 ≤ n then 2 * n else -2 * n - 1

def uz (u : Int) : Int := if u % 2 = 0 then u / 2 else -(u / 2) - 1

def InI (n : Int) : Prop := -9223372036854775808 ≤ n ∧ n ≤ 9223372036854775807

def InU (u : Int) : Prop := 0 ≤ u ∧ u ≤ 18446744073709551615

theorem zz_in {n : Int} (h : InI n) : InU (zz n) := by unfold InI InU zz at *; split <;> omega

theorem uz_in {u : Int} (h : InU u) : InI (uz u) := by unfold InI InU uz at *; split <;> omega

theorem uz_zz (n : Int) : uz (zz n) = n := by unfold uz zz; split <;> split <;> omega

theorem zz_uz {u : Int} (h : InU u) : zz (uz u) = u := by unfold InU uz zz at *; split <;> split <;> omega

theorem zz_pos {n : Int} (h : 0 ≤ n) : 2 * n = zz n := by unfold zz; rw [if_pos h]

theorem zz_neg {n : Int} (h : n < 0) : 2 * -(n + 1) + 1 = zz n := by unfold zz; rw [if_neg (by omega)]; omega

theorem uz_even {u : Int} (h : (u % 2 == 0) = true) : u / 2 = uz u := by unfold uz; rw [if_pos (beq_iff_eq.1 h)]

theorem uz_odd {u : Int} (h : (u % 2 == 0) = false) : -(u / 2) - 1 = uz u := by unfold uz; rw [if_neg (beq_eq_false_iff_ne.1 h)]

theorem xor_ones (a : Nat) (h : a < 18446744073709551616) : a ^^^ 18446744073709551615 = 18446744073709551615 - a := by
  have e := congrArg BitVec.toNat (BitVec.xor_allOnes (x := BitVec.ofNat 64 a))
  rw [BitVec.toNat_xor, BitVec.toNat_not, BitVec.toNat_ofNat, BitVec.toNat_allOnes, Nat.mod_eq_of_lt (by omega)] at e
  exact e

theorem zig_bits (n : Int) (h : InI n) : bits .xor .u64 (IntKind.u64.wrap (IntKind.u64.wrap n * 2)) (IntKind.u64.wrap (n / 9223372036854775808)) = zz n := by
  obtain ⟨h0, h1⟩ := h
  rw [IntKind.wrap_u64, IntKind.wrap_u64, IntKind.wrap_u64, u64_xor _ _ (by omega) (by omega) (by omega) (by omega)]
  unfold zz
  split
  · have e1 : n % 18446744073709551616 * 2 % 18446744073709551616 = 2 * n := by omega
    have e2 : n / 9223372036854775808 % 18446744073709551616 = 0 := by omega
    rw [e1, e2, Int.toNat_zero, Nat.xor_zero]
    omega
  · have e2 : n / 9223372036854775808 % 18446744073709551616 = 18446744073709551615 := by omega
    rw [e2, show (18446744073709551615 : Int).toNat = 18446744073709551615 from rfl, xor_ones _ (by omega)]
    omega

theorem unzig_bits (u : Int) (h : InU u) : bits .xor .i64 (u / 2) (wrap64 (-wrap64 (bits .and .u64 u 1))) = uz u := by
  obtain ⟨h0, h1⟩ := h
  obtain ⟨n, rfl⟩ := Int.eq_ofNat_of_zero_le h0
  have ha : bits .and .u64 (n : Int) 1 = ((n % 2 : Nat) : Int) := by
    have := u64_and_nat n 1 (by omega) (by omega)
    rwa [nat_mask1] at this
  rw [ha]
  have hm : bits .xor .i64 ((n : Int) / 2) (wrap64 (-wrap64 ((n % 2 : Nat) : Int))) = IntKind.i64.wrap ((BitVec.ofInt 64 ((n : Int) / 2) ^^^ BitVec.ofInt 64 (wrap64 (-wrap64 ((n % 2 : Nat) : Int)))).toNat : Int) := rfl
  rw [hm, BitVec.toNat_xor, show ((n : Int) / 2) = ((n / 2 : Nat) : Int) by omega, ofInt_u64 (n / 2) (by omega), IntKind.wrap_i64]
  unfold uz
  split
  · have e1 : wrap64 (-wrap64 ((n % 2 : Nat) : Int)) = ((0 : Nat) : Int) := by unfold wrap64; omega
    rw [e1, ofInt_u64 0 (by omega), Nat.xor_zero]
    omega
  · have e1 : wrap64 (-wrap64 ((n % 2 : Nat) : Int)) = -1 := by unfold wrap64; omega
    rw [e1, show (BitVec.ofInt 64 (-1)).toNat = 18446744073709551615 from rfl, xor_ones _ (by omega)]
    omega

set_option maxRecDepth 100000 in
set_option maxHeartbeats 1000000 in
theorem unzig_any (u : Int) (w : World) (h : InU u) :
    Calls Tryz.prog 102 #[.int .u64 u] w fun e w' => e = .returned (.int .i64 (uz u)) ∧ w = w' := by
  obtain ⟨h0, h1⟩ := h
  go_enter Tryz.func102, Tryz.ntmps102
  go_wp2
  go_ret
  exact ⟨ret1 (unzig_bits u ⟨h0, h1⟩), rfl⟩

end Go.Proofs.YtkapmfopfddmbaaGreat

/-
  Instructions, terminators, blocks and functions of source code as data, and what memory shows of them.
-/
namespace Go.Proofs.YtkapmfopfddmbaaGreat
open Go.RowKit
set_option linter.unusedVariables false

structure In where
  op : Int
  d : Int
  a : Int
  b : Int
  imm : Int

structure Tm where
  kind : Int
  a : Int
  to : Int
  el : Int

structure Blk where
  code : List In
  term : Tm

def In.cells (x : In) : List Value := [.int .i64 x.op, .int .i64 x.d, .int .i64 x.a, .int .i64 x.b, .int .i64 x.imm]

/-- An instruction's five cells. -/
structure In.At (w : World) (b o : Nat) (x : In) : Prop where
  c0 : w.cell? ⟨b, o, none⟩ = some (.int .i64 x.op)
  c1 : w.cell? ⟨b, o + 1, none⟩ = some (.int .i64 x.d)
  c2 : w.cell? ⟨b, o + 2, none⟩ = some (.int .i64 x.a)
  c3 : w.cell? ⟨b, o + 3, none⟩ = some (.int .i64 x.b)
  c4 : w.cell? ⟨b, o + 4, none⟩ = some (.int .i64 x.imm)

/-- The slice address A shows these instructions, below block B. -/
def InsAt (w : World) (B : Nat) (A : Option Addr) (xs : List In) : Prop :=
  xs ≠ [] → ∃ b o, A = some ⟨b, o, none⟩ ∧ b < B ∧ ∀ (i : Nat) (x : In), xs[i]? = some x → x.At w b (o + i * 5)

/-- A block's five cells, and its instructions. -/
structure Blk.At (w : World) (B : Nat) (b o : Nat) (x : Blk) : Prop where
  code : ∃ A c, w.cell? ⟨b, o, none⟩ = some (.slice A x.code.length c) ∧ x.code.length ≤ c ∧ c ≤ maxLen ∧ InsAt w B A x.code
  t0 : w.cell? ⟨b, o + 1, none⟩ = some (.int .i64 x.term.kind)
  t1 : w.cell? ⟨b, o + 2, none⟩ = some (.int .i64 x.term.a)
  t2 : w.cell? ⟨b, o + 3, none⟩ = some (.int .i64 x.term.to)
  t3 : w.cell? ⟨b, o + 4, none⟩ = some (.int .i64 x.term.el)

/-- The slice address A shows these blocks, below block B. -/
def BlksAt (w : World) (B : Nat) (A : Option Addr) (xs : List Blk) : Prop :=
  xs ≠ [] → ∃ b o, A = some ⟨b, o, none⟩ ∧ b < B ∧ ∀ (i : Nat) (x : Blk), xs[i]? = some x → x.At w B b (o + i * 5)

section
variable {w w' : World} {B B' : Nat} {A : Option Addr} {b o : Nat}

theorem In.At.keep {x : In} (h : x.At w b o) (hb : b < B) (hk : ∀ p : Addr, p.block < B → w'.cell? p = w.cell? p) : x.At w' b o :=
  ⟨(hk ⟨b, _, none⟩ hb).trans h.c0, (hk ⟨b, _, none⟩ hb).trans h.c1, (hk ⟨b, _, none⟩ hb).trans h.c2, (hk ⟨b, _, none⟩ hb).trans h.c3, (hk ⟨b, _, none⟩ hb).trans h.c4⟩

theorem InsAt.nil : InsAt w B A [] := fun h => absurd rfl h

theorem InsAt.keep {xs : List In} (h : InsAt w B A xs) (hk : ∀ p : Addr, p.block < B → w'.cell? p = w.cell? p) : InsAt w' B A xs := fun hn => by
  obtain ⟨b, o, e, hb, hc⟩ := h hn
  exact ⟨b, o, e, hb, fun i x hx => (hc i x hx).keep hb hk⟩

theorem InsAt.more {xs : List In} (h : InsAt w B A xs) (hB : B ≤ B') : InsAt w B' A xs := fun hn => by
  obtain ⟨b, o, e, hb, hc⟩ := h hn
  exact ⟨b, o, e, by omega, hc⟩

theorem InsAt.at_ {xs : List In} (h : InsAt w B A xs) {i : Nat} (hi : i < xs.length) : ∃ b o, A = some ⟨b, o, none⟩ ∧ b < B ∧ xs[i].At w b (o + i * 5) := by
  obtain ⟨b, o, e, hb, hc⟩ := h (by intro e; subst e; simp at hi)
  exact ⟨b, o, e, hb, hc i _ (List.getElem?_eq_getElem hi)⟩

theorem InsAt.below {xs : List In} (h : InsAt w B A xs) (hb : Below B w w') : InsAt w' B A xs := h.keep fun _ hp => hb.cell hp

theorem Blk.At.keep {x : Blk} (h : x.At w B b o) (hb : b < B) (hk : ∀ p : Addr, p.block < B → w'.cell? p = w.cell? p) : x.At w' B b o where
  code := by
    obtain ⟨A, c, h1, h2, h3, h4⟩ := h.code
    exact ⟨A, c, (hk ⟨b, _, none⟩ hb).trans h1, h2, h3, h4.keep hk⟩
  t0 := (hk ⟨b, _, none⟩ hb).trans h.t0
  t1 := (hk ⟨b, _, none⟩ hb).trans h.t1
  t2 := (hk ⟨b, _, none⟩ hb).trans h.t2
  t3 := (hk ⟨b, _, none⟩ hb).trans h.t3

theorem Blk.At.more {x : Blk} (h : x.At w B b o) (hB : B ≤ B') : x.At w B' b o := { h with
  code := by
    obtain ⟨A, c, h1, h2, h3, h4⟩ := h.code
    exact ⟨A, c, h1, h2, h3, h4.more hB⟩ }

theorem BlksAt.nil : BlksAt w B A [] := fun h => absurd rfl h

theorem BlksAt.keep {xs : List Blk} (h : BlksAt w B A xs) (hk : ∀ p : Addr, p.block < B → w'.cell? p = w.cell? p) : BlksAt w' B A xs := fun hn => by
  obtain ⟨b, o, e, hb, hc⟩ := h hn
  exact ⟨b, o, e, hb, fun i x hx => (hc i x hx).keep hb hk⟩

theorem BlksAt.more {xs : List Blk} (h : BlksAt w B A xs) (hB : B ≤ B') : BlksAt w B' A xs := fun hn => by
  obtain ⟨b, o, e, hb, hc⟩ := h hn
  exact ⟨b, o, e, by omega, fun i x hx => (hc i x hx).more hB⟩

theorem BlksAt.below {xs : List Blk} (h : BlksAt w B A xs) (hb : Below B w w') : BlksAt w' B A xs := h.keep fun _ hp => hb.cell hp

theorem BlksAt.drewN {xs : List Blk} (h : BlksAt w B A xs) (n : Nat) : BlksAt (w.drewN n) B A xs := h.keep fun _ _ => rfl

theorem BlksAt.alloc {xs : List Blk} (h : BlksAt w B A xs) (hB : B ≤ w.heap.size) (o : Obj) : BlksAt (w.alloc o) B A xs := h.keep fun p hp => World.cell?_alloc_lt w o p (by omega)

theorem BlksAt.at_ {xs : List Blk} (h : BlksAt w B A xs) {i : Nat} (hi : i < xs.length) : ∃ b o, A = some ⟨b, o, none⟩ ∧ b < B ∧ xs[i].At w B b (o + i * 5) := by
  obtain ⟨b, o, e, hb, hc⟩ := h (by intro e; subst e; simp at hi)
  exact ⟨b, o, e, hb, hc i _ (List.getElem?_eq_getElem hi)⟩

end

/-- The slice of a new block shows the block's cells. -/
theorem sees_new (w : World) (cs : Array Value) (t : TypeId) : Sees (w.alloc (.cells cs t)) (w.heap.size + 1) (some ⟨w.heap.size, 0, none⟩) cs.toList := fun _ =>
  ⟨w.heap.size, 0, rfl, Nat.lt_succ_self _, fun i u hu => by
    rw [Nat.zero_add, cell_of_row _ _ i cs t (0, 0) (heap_alloc_new w _)]
    simpa using hu⟩

/-- A list of records of s cells each, laid end to end. -/
theorem flat_get {α : Type} (f : α → List Value) (s : Nat) (hs : ∀ x, (f x).length = s) : ∀ (l : List α) (k : Nat) (x : α), l[k]? = some x → ∀ j u, (f x)[j]? = some u → (l.flatMap f)[k * s + j]? = some u
  | [], k, x, h, _, _, _ => by simp at h
  | y :: r, 0, x, h, j, u, hu => by
    simp only [List.getElem?_cons_zero, Option.some.injEq] at h
    subst h
    have hj : j < (f y).length := (List.getElem?_eq_some_iff.1 hu).1
    rw [List.flatMap_cons, Nat.zero_mul, Nat.zero_add, List.getElem?_append_left hj]
    exact hu
  | y :: r, k + 1, x, h, j, u, hu => by
    rw [List.getElem?_cons_succ] at h
    have := flat_get f s hs r k x h j u hu
    rw [List.flatMap_cons, List.getElem?_append_right (by rw [hs, Nat.succ_mul]; omega), hs, Nat.succ_mul, show k * s + s + j - s = k * s + j by omega]
    exact this

end Go.Proofs.YtkapmfopfddmbaaGreat

/-
  The program's and the reference's InRange of layer 4, without its texts (for seats that read no table).
-/
namespace Go.Proofs.YtkapmfopfddmbaaGreat
open Go.RowKit
set_option linter.unusedVariables false

/-- Whether a location is in range. -/
def locS (l r s : Int) : Bool := if l < 0 then false else if l % 2 = 1 then decide (l / 2 < s) else decide (l / 2 < r)

theorem locS_nn {l r s : Int} (h : locS l r s = true) : 0 ≤ l := by
  unfold locS at h
  by_cases h0 : l < 0
  · rw [if_pos h0] at h; cases h
  · omega

/-- A number that fits. -/
def Fits (l : Int) : Prop := -9223372036854775808 ≤ l ∧ l ≤ 9223372036854775807

set_option maxRecDepth 100000 in
theorem locslot_any (l : Int) (b : Bool) (w : World) (h0 : 0 ≤ l) (h : l ≤ 9223372036854775807) (hb : decide (l % 2 = 1) = b) :
    Calls Tryz.prog 100 #[.int .i64 l] w fun e w' => e = .returned (.bool b) ∧ w = w' := by
  go_enter Tryz.func100, Tryz.ntmps100
  go_wp2
  go_ret
  refine ⟨?_, rfl⟩
  have e : (l % 2 != 0) = b := by
    rw [← hb]
    rcases (by omega : l % 2 = 0 ∨ l % 2 = 1) with h1 | h1
    · rw [h1]; rfl
    · rw [h1]; rfl
  exact congrArg (fun x => Ending.returned (Value.bool x)) e

set_option maxRecDepth 100000 in
theorem locidx_any (l : Int) (w : World) (h0 : 0 ≤ l) (h : l ≤ 9223372036854775807) :
    Calls Tryz.prog 105 #[.int .i64 l] w fun e w' => e = .returned (.int .i64 (l / 2)) ∧ w = w' := by
  go_enter Tryz.func105, Tryz.ntmps105
  go_wp2
  go_ret
  exact ⟨rfl, rfl⟩

set_option maxRecDepth 100000 in
set_option maxHeartbeats 1000000 in
theorem locin_any (l r s : Int) (w : World) (hf : Fits l) :
    Calls Tryz.prog 104 #[.int .i64 l, .int .i64 r, .int .i64 s] w fun e w' => e = .returned (.bool (locS l r s)) ∧ w = w' := by
  obtain ⟨h0, h1⟩ := hf
  unfold locS
  by_cases hn : l < 0
  · rw [if_pos hn]
    go_enter Tryz.func104, Tryz.ntmps104
    go_wp2
    go_ret
    exact ⟨rfl, rfl⟩
  · rw [if_neg hn]
    have hl0 : 0 ≤ l := by omega
    by_cases h2 : l % 2 = 1
    · rw [if_pos h2]
      have e2 : Hid (decide (l % 2 = 1) = true) := Lib.hid (by simp [h2])
      clear h2
      go_enter Tryz.func104, Tryz.ntmps104
      go_wp2_with (first
        | (go_at_call 100; refine (locslot_any l true _ hl0 h1 e2.out).mono ?_; rintro e w' ⟨rfl, rfl⟩)
        | (go_at_call 105; refine (locidx_any l _ hl0 h1).mono ?_; rintro e w' ⟨rfl, rfl⟩))
      go_ret
      exact ⟨rfl, rfl⟩
    · rw [if_neg h2]
      have e2 : Hid (decide (l % 2 = 1) = false) := Lib.hid (by simp [h2])
      clear h2
      go_enter Tryz.func104, Tryz.ntmps104
      go_wp2_with (first
        | (go_at_call 100; refine (locslot_any l false _ hl0 h1 e2.out).mono ?_; rintro e w' ⟨rfl, rfl⟩)
        | (go_at_call 105; refine (locidx_any l _ hl0 h1).mono ?_; rintro e w' ⟨rfl, rfl⟩))
      go_ret
      exact ⟨rfl, rfl⟩

set_option maxRecDepth 100000 in
set_option maxHeartbeats 1000000 in
theorem rlocin_any (l r s : Int) (w : World) (hf : Fits l) :
    Calls Tryz.prog 56 #[.int .i64 l, .int .i64 r, .int .i64 s] w fun e w' => e = .returned (.bool (locS l r s)) ∧ w = w' := by
  obtain ⟨h0, h1⟩ := hf
  unfold locS
  by_cases hn : l < 0
  · rw [if_pos hn]
    go_enter Tryz.func56, Tryz.ntmps56
    go_wp2
    go_ret
    exact ⟨rfl, rfl⟩
  · rw [if_neg hn]
    by_cases h2 : l % 2 = 1
    · rw [if_pos h2]
      go_enter Tryz.func56, Tryz.ntmps56
      go_wp2
      go_ret
      exact ⟨rfl, rfl⟩
    · rw [if_neg h2]
      go_enter Tryz.func56, Tryz.ntmps56
      go_wp2
      go_ret
      exact ⟨rfl, rfl⟩

theorem locin_at (l r s : Int) (b : Bool) (w : World) (hf : Fits l) (hb : locS l r s = b) :
    Calls Tryz.prog 104 #[.int .i64 l, .int .i64 r, .int .i64 s] w fun e w' => e = .returned (.bool b) ∧ w = w' := by
  subst hb
  exact locin_any l r s w hf

theorem rlocin_at (l r s : Int) (b : Bool) (w : World) (hf : Fits l) (hb : locS l r s = b) :
    Calls Tryz.prog 56 #[.int .i64 l, .int .i64 r, .int .i64 s] w fun e w' => e = .returned (.bool b) ∧ w = w' := by
  subst hb
  exact rlocin_any l r s w hf

end Go.Proofs.YtkapmfopfddmbaaGreat

/-
  Machine instructions, blocks and functions of allocated code as data, and what memory shows of them.
-/
namespace Go.Proofs.YtkapmfopfddmbaaGreat
open Go.RowKit
set_option linter.unusedVariables false

structure Mi where
  op : Int
  d : Int
  a : Int
  b : Int
  imm : Int
  dst : Int
  src : Int

structure MBlk where
  code : List Mi
  term : Tm

def Mi.cells (x : Mi) : List Value := [.int .i64 x.op, .int .i64 x.d, .int .i64 x.a, .int .i64 x.b, .int .i64 x.imm, .int .i64 x.dst, .int .i64 x.src]

def Mi.ins (x : Mi) : In := ⟨x.op, x.d, x.a, x.b, x.imm⟩

def Mi.Ok (x : Mi) : Prop := Fits x.dst ∧ Fits x.src

/-- An instruction's seven cells; its locations fit. -/
structure Mi.At (w : World) (b o : Nat) (x : Mi) : Prop where
  ok : x.Ok
  c0 : w.cell? ⟨b, o, none⟩ = some (.int .i64 x.op)
  c1 : w.cell? ⟨b, o + 1, none⟩ = some (.int .i64 x.d)
  c2 : w.cell? ⟨b, o + 2, none⟩ = some (.int .i64 x.a)
  c3 : w.cell? ⟨b, o + 3, none⟩ = some (.int .i64 x.b)
  c4 : w.cell? ⟨b, o + 4, none⟩ = some (.int .i64 x.imm)
  c5 : w.cell? ⟨b, o + 5, none⟩ = some (.int .i64 x.dst)
  c6 : w.cell? ⟨b, o + 6, none⟩ = some (.int .i64 x.src)

/-- The slice address A shows these instructions, below block B. -/
def MisAt (w : World) (B : Nat) (A : Option Addr) (xs : List Mi) : Prop :=
  xs ≠ [] → ∃ b o, A = some ⟨b, o, none⟩ ∧ b < B ∧ ∀ (i : Nat) (x : Mi), xs[i]? = some x → x.At w b (o + i * 7)

/-- A block's five cells, and its instructions. -/
structure MBlk.At (w : World) (B : Nat) (b o : Nat) (x : MBlk) : Prop where
  code : ∃ A c, w.cell? ⟨b, o, none⟩ = some (.slice A x.code.length c) ∧ x.code.length ≤ c ∧ c ≤ maxLen ∧ MisAt w B A x.code
  t0 : w.cell? ⟨b, o + 1, none⟩ = some (.int .i64 x.term.kind)
  t1 : w.cell? ⟨b, o + 2, none⟩ = some (.int .i64 x.term.a)
  t2 : w.cell? ⟨b, o + 3, none⟩ = some (.int .i64 x.term.to)
  t3 : w.cell? ⟨b, o + 4, none⟩ = some (.int .i64 x.term.el)

/-- The slice address A shows these blocks, below block B. -/
def MBlksAt (w : World) (B : Nat) (A : Option Addr) (xs : List MBlk) : Prop :=
  xs ≠ [] → ∃ b o, A = some ⟨b, o, none⟩ ∧ b < B ∧ ∀ (i : Nat) (x : MBlk), xs[i]? = some x → x.At w B b (o + i * 5)

section
variable {w w' : World} {B B' : Nat} {A : Option Addr} {b o : Nat}

theorem Mi.At.keep {x : Mi} (h : x.At w b o) (hb : b < B) (hk : ∀ p : Addr, p.block < B → w'.cell? p = w.cell? p) : x.At w' b o :=
  ⟨h.ok, (hk ⟨b, _, none⟩ hb).trans h.c0, (hk ⟨b, _, none⟩ hb).trans h.c1, (hk ⟨b, _, none⟩ hb).trans h.c2, (hk ⟨b, _, none⟩ hb).trans h.c3, (hk ⟨b, _, none⟩ hb).trans h.c4, (hk ⟨b, _, none⟩ hb).trans h.c5, (hk ⟨b, _, none⟩ hb).trans h.c6⟩

theorem MisAt.nil : MisAt w B A [] := fun h => absurd rfl h

theorem MisAt.keep {xs : List Mi} (h : MisAt w B A xs) (hk : ∀ p : Addr, p.block < B → w'.cell? p = w.cell? p) : MisAt w' B A xs := fun hn => by
  obtain ⟨b, o, e, hb, hc⟩ := h hn
  exact ⟨b, o, e, hb, fun i x hx => (hc i x hx).keep hb hk⟩

theorem MisAt.more {xs : List Mi} (h : MisAt w B A xs) (hB : B ≤ B') : MisAt w B' A xs := fun hn => by
  obtain ⟨b, o, e, hb, hc⟩ := h hn
  exact ⟨b, o, e, by omega, hc⟩

theorem MisAt.at_ {xs : List Mi} (h : MisAt w B A xs) {i : Nat} (hi : i < xs.length) : ∃ b o, A = some ⟨b, o, none⟩ ∧ b < B ∧ xs[i].At w b (o + i * 7) := by
  obtain ⟨b, o, e, hb, hc⟩ := h (by intro e; subst e; simp at hi)
  exact ⟨b, o, e, hb, hc i _ (List.getElem?_eq_getElem hi)⟩

theorem MisAt.below {xs : List Mi} (h : MisAt w B A xs) (hb : Below B w w') : MisAt w' B A xs := h.keep fun _ hp => hb.cell hp

theorem MisAt.alloc {xs : List Mi} (h : MisAt w B A xs) (hB : B ≤ w.heap.size) (o : Obj) : MisAt (w.alloc o) B A xs := h.keep fun p hp => World.cell?_alloc_lt w o p (by omega)

theorem MisAt.take {xs : List Mi} (h : MisAt w B A xs) (k : Nat) : MisAt w B A (xs.take k) := fun hn => by
  obtain ⟨b, o, e, hb, hc⟩ := h (by intro e; subst e; simp at hn)
  refine ⟨b, o, e, hb, fun i x hx => hc i x ?_⟩
  rw [List.getElem?_take] at hx
  split at hx
  · exact hx
  · cases hx

/-- The cut of a slice from k on: its address as the model writes it. -/
theorem MisAt.drop {xs : List Mi} {b o : Nat} (h : MisAt w B (some ⟨b, o, none⟩) xs) (k : Nat) : MisAt w B (some ⟨b, o + k * 7, none⟩) (xs.drop k) := fun hn => by
  obtain ⟨b', o', e, hb, hc⟩ := h (by intro e; subst e; simp at hn)
  injection e with e
  injection e with e1 e2
  subst e1
  subst e2
  refine ⟨b, o + k * 7, rfl, hb, fun i x hx => ?_⟩
  rw [List.getElem?_drop] at hx
  have := hc _ x hx
  rwa [show o + (k + i) * 7 = o + k * 7 + i * 7 by omega] at this

theorem MBlk.At.keep {x : MBlk} (h : x.At w B b o) (hb : b < B) (hk : ∀ p : Addr, p.block < B → w'.cell? p = w.cell? p) : x.At w' B b o where
  code := by
    obtain ⟨A, c, h1, h2, h3, h4⟩ := h.code
    exact ⟨A, c, (hk ⟨b, _, none⟩ hb).trans h1, h2, h3, h4.keep hk⟩
  t0 := (hk ⟨b, _, none⟩ hb).trans h.t0
  t1 := (hk ⟨b, _, none⟩ hb).trans h.t1
  t2 := (hk ⟨b, _, none⟩ hb).trans h.t2
  t3 := (hk ⟨b, _, none⟩ hb).trans h.t3

theorem MBlk.At.more {x : MBlk} (h : x.At w B b o) (hB : B ≤ B') : x.At w B' b o := { h with
  code := by
    obtain ⟨A, c, h1, h2, h3, h4⟩ := h.code
    exact ⟨A, c, h1, h2, h3, h4.more hB⟩ }

theorem MBlksAt.nil : MBlksAt w B A [] := fun h => absurd rfl h

theorem MBlksAt.keep {xs : List MBlk} (h : MBlksAt w B A xs) (hk : ∀ p : Addr, p.block < B → w'.cell? p = w.cell? p) : MBlksAt w' B A xs := fun hn => by
  obtain ⟨b, o, e, hb, hc⟩ := h hn
  exact ⟨b, o, e, hb, fun i x hx => (hc i x hx).keep hb hk⟩

theorem MBlksAt.more {xs : List MBlk} (h : MBlksAt w B A xs) (hB : B ≤ B') : MBlksAt w B' A xs := fun hn => by
  obtain ⟨b, o, e, hb, hc⟩ := h hn
  exact ⟨b, o, e, by omega, fun i x hx => (hc i x hx).more hB⟩

theorem MBlksAt.below {xs : List MBlk} (h : MBlksAt w B A xs) (hb : Below B w w') : MBlksAt w' B A xs := h.keep fun _ hp => hb.cell hp

theorem MBlksAt.drewN {xs : List MBlk} (h : MBlksAt w B A xs) (n : Nat) : MBlksAt (w.drewN n) B A xs := h.keep fun _ _ => rfl

theorem MBlksAt.alloc {xs : List MBlk} (h : MBlksAt w B A xs) (hB : B ≤ w.heap.size) (o : Obj) : MBlksAt (w.alloc o) B A xs := h.keep fun p hp => World.cell?_alloc_lt w o p (by omega)

theorem MBlksAt.at_ {xs : List MBlk} (h : MBlksAt w B A xs) {i : Nat} (hi : i < xs.length) : ∃ b o, A = some ⟨b, o, none⟩ ∧ b < B ∧ xs[i].At w B b (o + i * 5) := by
  obtain ⟨b, o, e, hb, hc⟩ := h (by intro e; subst e; simp at hi)
  exact ⟨b, o, e, hb, hc i _ (List.getElem?_eq_getElem hi)⟩

end

end Go.Proofs.YtkapmfopfddmbaaGreat

/-
  The names and shapes of opcodes, and the program's table of names in memory.
-/
namespace Go.Proofs.YtkapmfopfddmbaaGreat
open Go.RowKit

/-- The names, by opcode. -/
def nmL : List (List UInt8) := [[], [99, 111, 110, 115, 116], [99, 111, 112, 121], [110, 101, 103], [110, 111, 116], [97, 100, 100], [115, 117, 98], [109, 117, 108], [100, 105, 118], [114, 101, 109], [97, 110, 100], [111, 114], [120, 111, 114], [115, 104, 108], [115, 104, 114], [101, 113], [108, 101, 115, 115], [101, 109, 105, 116], [109, 111, 118, 101]]

def nm (i : Nat) : List UInt8 := nmL.getD i []

def nmB (i : Nat) : ByteArray := ⟨(nm i).toArray⟩

theorem nmB_list (i : Nat) : (nmB i).toList = nm i := by rw [ByteArray.toList_eq]; rfl

theorem nmB_data (i : Nat) : (nmB i).data.toList = nm i := rfl

/-- The name of a number. -/
def nameB (op : Int) : ByteArray := if 1 ≤ op ∧ op ≤ 18 then nmB op.toNat else ⟨#[]⟩

theorem nameB_in {op : Int} (h : 1 ≤ op ∧ op ≤ 18) : nameB op = nmB op.toNat := by rw [nameB, if_pos h]

theorem nameB_out {op : Int} (h : ¬ (1 ≤ op ∧ op ≤ 18)) : nameB op = ⟨#[]⟩ := by rw [nameB, if_neg h]

/-- The opcode of a name. -/
def fnd (l : List UInt8) : Nat := ((List.range 19).find? fun k => nm k == l).getD 0

theorem fnd_nm {k : Nat} (h : k < 19) : fnd (nm k) = k := (by decide : ∀ k < 19, fnd (nm k) = k) k h

theorem fnd_hit {k : Nat} {l : List UInt8} (h : k < 19) (e : nm k = l) : fnd l = k := by subst e; exact fnd_nm h

theorem fnd_miss {l : List UInt8} (h : ∀ k, k < 19 → nm k ≠ l) : fnd l = 0 := by
  unfold fnd
  rw [List.find?_eq_none.2 fun k hk => by simpa using h k (List.mem_range.1 hk)]
  rfl

theorem fnd_cases (l : List UInt8) : (fnd l < 19 ∧ nm (fnd l) = l) ∨ fnd l = 0 := by
  by_cases h : ∃ k, k < 19 ∧ nm k = l
  · obtain ⟨k, hk, e⟩ := h
    rw [fnd_hit hk e]
    exact .inl ⟨hk, e⟩
  · exact .inr (fnd_miss fun k hk e => h ⟨k, hk, e⟩)

theorem fnd_lt (l : List UInt8) : fnd l < 19 := by
  rcases fnd_cases l with h | h
  · exact h.1
  · omega

theorem nm_ne {k : Nat} (h : 1 ≤ k) (h2 : k < 19) : nm k ≠ [] := (by decide : ∀ k < 19, 1 ≤ k → nm k ≠ []) k h2 h

theorem nm_zero : nm 0 = [] := rfl

/-- The shape of an opcode. -/
def uD (op : Int) : Bool := decide (1 ≤ op ∧ op ≤ 16)

def uA (op : Int) : Bool := decide (2 ≤ op ∧ op ≤ 17)

def uB (op : Int) : Bool := decide (5 ≤ op ∧ op ≤ 16)

def uI (op : Int) : Bool := decide (op = 1)

def uO (op : Int) : Bool := decide (1 ≤ op ∧ op ≤ 18)

/-- The table of names, as cells. -/
def tabL : List Value := nmL.map fun l => Value.string ⟨l.toArray⟩

def tabA : Array Value := tabL.toArray

theorem tabL_get {i : Nat} (h : i < 19) : tabL[i]? = some (.string (nmB i)) := by
  have hl : i < nmL.length := h
  rw [tabL, List.getElem?_map, List.getElem?_eq_getElem hl, nmB, nm, List.getD_eq_getElem?_getD, List.getElem?_eq_getElem hl]
  rfl

theorem tabA_size : tabA.size = 19 := rfl

theorem tabA_get {i : Nat} (h : i < 19) : tabA[i]? = some (.string (nmB i)) := by
  have := tabL_get h
  simpa [tabA] using this

/-- An array of strings that reads as these strings holds them, cell for cell. -/
theorem cells_of_strs {H : Type} {enc : TypeId × Value → H} {P : Program} {w : World} {base : Nat} {sp : Nat → Bool} {held : Bool} {fuel : Nat} {t e : TypeId} {n : Nat} {cs : List Value} {ls : List (List UInt8)} {p : List MemPlace}
    (ht : P.underlying t = some (.array n e)) (he : P.underlying e = some .string) (hce : P.cellsOf e = 1) (hct : P.cellsOf t = n)
    (h : DataW.trod enc P w base sp held fuel t cs = some (.agg (ls.map fun l => .lit (.string l)), p)) : cs = ls.map fun l => Value.string ⟨l.toArray⟩ := by
  obtain ⟨xs, m, -, hx, hl, hxl, hel⟩ := DataW.trod_array ht h
  rw [hct] at hl
  simp only [Prod.mk.injEq, DataW.agg.injEq] at hx
  have hxs := hx.1
  have hzl : ls.length = n := by
    have := congrArg List.length hxs
    simp at this
    omega
  apply List.ext_getElem?
  intro i
  by_cases hi : i < n
  · have hE := hel i hi
    rw [hce, Nat.mul_one] at hE
    have hxi : i < xs.length := by omega
    rw [List.getElem?_eq_getElem hxi] at hE
    obtain ⟨s, hc, hy, _⟩ := DataW.trod_string he hE
    have h1 : cs[i]? = some (.string s) := by
      have := congrArg (·[0]?) hc
      simpa [List.getElem?_take, List.getElem?_drop] using this
    have h2 : (xs.map (·.1))[i]? = some (DataW.lit (.string s.data.toList) : DataW H) := by
      rw [List.getElem?_map, List.getElem?_eq_getElem hxi, hy]
      rfl
    rw [← hxs] at h2
    simp only [List.getElem?_map, Option.map_eq_some_iff, DataW.lit.injEq, Lit.string.injEq] at h2
    obtain ⟨l, hl', rfl⟩ := h2
    rw [h1, List.getElem?_map, hl']
    rfl
  · rw [List.getElem?_eq_none (by omega), List.getElem?_eq_none (by simp; omega)]

end Go.Proofs.YtkapmfopfddmbaaGreat

/-
  What layer 7 answers, as functions on data.
-/
namespace Go.Proofs.YtkapmfopfddmbaaGreat
open Go.RowKit

abbrev Fld := Bool × Int

def Fld.cells (f : Fld) : List Value := [.bool f.1, .int .i64 f.2]

def fR (n : Int) (f : Fld) : Bool := !(f.1 && (decide (f.2 < 0) || decide (n ≤ f.2)))

def fZ (f : Fld) : Bool := !(!f.1 && f.2 != 0)

def okR (n : Int) (fs : List Fld) : Bool := fs.all (fR n)

def okZ (fs : List Fld) : Bool := fs.all fZ

def srcO (op : Int) : Bool := uO op && !(op == 18)

def In.regF (x : In) : List Fld := [(uD x.op, x.d), (uA x.op, x.a), (uB x.op, x.b)]

def In.allF (x : In) : List Fld := [(uD x.op, x.d), (uA x.op, x.a), (uB x.op, x.b), (uI x.op, x.imm)]

/-- The error of an instruction. -/
def eI (x : In) (regs : Int) : Int := if srcO x.op then if okR regs x.regF then if okZ x.allF then 0 else 12 else 9 else 8

def kO (k : Int) : Bool := k == 1 || k == 2 || k == 3

def Tm.aF (t : Tm) : List Fld := [(t.kind != 1, t.a)]

def Tm.toF (t : Tm) : List Fld := [(t.kind != 3, t.to), (t.kind == 2, t.el)]

def Tm.allF (t : Tm) : List Fld := [(t.kind != 1, t.a), (t.kind != 3, t.to), (t.kind == 2, t.el)]

/-- The error of a terminator. -/
def eT (t : Tm) (regs blocks : Int) : Int := if kO t.kind then if okR regs t.aF then if okR blocks t.toF then if okZ t.allF then 0 else 12 else 11 else 9 else 16

def succs (t : Tm) : List Int := if t.kind = 1 then [t.to] else if t.kind = 2 then [t.to, t.el] else []

/-- The number of instructions. -/
def codeN (bs : List Blk) : Nat := (bs.map fun b => b.code.length).sum

theorem codeN_nil : codeN [] = 0 := rfl

theorem codeN_cons (b : Blk) (bs : List Blk) : codeN (b :: bs) = b.code.length + codeN bs := by simp [codeN]

theorem codeN_append (a b : List Blk) : codeN (a ++ b) = codeN a + codeN b := by rw [codeN, List.map_append, List.sum_append]; rfl

theorem codeN_step (bs : List Blk) (k : Nat) (h : k < bs.length) : codeN (bs.take (k + 1)) = codeN (bs.take k) + bs[k].code.length := by
  rw [List.take_succ_eq_append_getElem h, codeN_append, codeN_cons, codeN_nil, Nat.add_zero]

theorem codeN_take (bs : List Blk) (k : Nat) : codeN (bs.take k) ≤ codeN bs := by
  have : codeN bs = codeN (bs.take k) + codeN (bs.drop k) := by rw [← codeN_append, List.take_append_drop]
  omega

theorem codeN_mem (bs : List Blk) (k : Nat) (h : k < bs.length) : bs[k].code.length ≤ codeN bs := by
  have := codeN_step bs k h
  have := codeN_take bs (k + 1)
  omega

/-- The first error of instructions, and of a block; of blocks. -/
def eIs (regs : Int) : List In → Int
  | [] => 0
  | x :: r => if eI x regs = 0 then eIs regs r else eI x regs

def eB (x : Blk) (regs n : Int) : Int := if eIs regs x.code = 0 then eT x.term regs n else eIs regs x.code

def eBs (regs n : Int) : List Blk → Int
  | [] => 0
  | x :: r => if eB x regs n = 0 then eBs regs n r else eB x regs n

/-- The first error of the sizes. -/
def eSz (args regs : Int) (bs : List Blk) : Int :=
  if args < 0 ∨ regs < args then 9 else if 1048576 < regs then 6 else if bs.length = 0 then 14 else if 1048576 < bs.length ∨ 1048576 < codeN bs then 6 else 0

def eF (args regs : Int) (bs : List Blk) : Int := if eSz args regs bs = 0 then eBs regs bs.length bs else eSz args regs bs

theorem eIs_step (regs : Int) : ∀ (l : List In) (k : Nat) (h : k < l.length), eIs regs (l.drop k) = if eI l[k] regs = 0 then eIs regs (l.drop (k + 1)) else eI l[k] regs := by
  intro l k h
  rw [List.drop_eq_getElem_cons h]
  rfl

theorem eBs_step (regs n : Int) : ∀ (l : List Blk) (k : Nat) (h : k < l.length), eBs regs n (l.drop k) = if eB l[k] regs n = 0 then eBs regs n (l.drop (k + 1)) else eB l[k] regs n := by
  intro l k h
  rw [List.drop_eq_getElem_cons h]
  rfl

theorem okR_step (n : Int) (l : List Fld) (k : Nat) (h : k < l.length) : okR n (l.drop k) = (fR n l[k] && okR n (l.drop (k + 1))) := by
  rw [List.drop_eq_getElem_cons h]
  rfl

theorem okZ_step (l : List Fld) (k : Nat) (h : k < l.length) : okZ (l.drop k) = (fZ l[k] && okZ (l.drop (k + 1))) := by
  rw [List.drop_eq_getElem_cons h]
  rfl

theorem eI_range (x : In) (regs : Int) : 0 ≤ eI x regs ∧ eI x regs ≤ 16 := by
  unfold eI
  repeat' split
  all_goals decide

theorem eT_range (t : Tm) (r n : Int) : 0 ≤ eT t r n ∧ eT t r n ≤ 16 := by
  unfold eT
  repeat' split
  all_goals decide

end Go.Proofs.YtkapmfopfddmbaaGreat

/-
  What layer 8 answers, as functions on data.
-/
namespace Go.Proofs.YtkapmfopfddmbaaGreat
open Go.RowKit

def mopc (op : Int) : Bool := uO op && !(op == 2)

def Mi.mv (x : Mi) : Bool := x.op == 18

/-- Whether a field of a move is used that must be 0. -/
def Mi.zf (x : Mi) : Bool := x.d != 0 || x.a != 0 || x.b != 0 || x.imm != 0

def Mi.bad (x : Mi) (regs slots : Int) : Bool := !locS x.dst regs slots || !locS x.src regs slots || (decide (x.dst % 2 = 1) && decide (x.src % 2 = 1))

/-- The error of a move; of another instruction; of any. -/
def eMv (x : Mi) (regs slots : Int) : Int := if x.bad regs slots then 10 else if x.zf then 12 else 0

def eOt (x : Mi) (regs : Int) : Int := if (eI x.ins regs == 0 && (x.dst != 0 || x.src != 0)) then 12 else eI x.ins regs

def eM (x : Mi) (regs slots : Int) : Int := if mopc x.op then if x.mv then eMv x regs slots else eOt x regs else 8

/-- The number of moves at the beginning; in the longest run; at the end. -/
def lead : List Mi → Nat
  | [] => 0
  | x :: r => if x.mv then lead r + 1 else 0

def mvs : List Mi → Nat
  | [] => 0
  | x :: r => max (lead (x :: r)) (mvs r)

def ext (run : Nat) (x : Mi) : Nat := if x.mv then run + 1 else 0

def trail (l : List Mi) : Nat := l.foldl ext 0

theorem lead_le : ∀ l : List Mi, lead l ≤ l.length
  | [] => Nat.le_refl _
  | x :: r => by
    have := lead_le r
    rw [lead]
    split <;> simp <;> omega

theorem lead_mvs (l : List Mi) : lead l ≤ mvs l := by
  cases l with
  | nil => exact Nat.le_refl _
  | cons x r => exact Nat.le_max_left _ _

theorem mvs_le : ∀ l : List Mi, mvs l ≤ l.length
  | [] => Nat.le_refl _
  | x :: r => by
    have := mvs_le r
    have := lead_le (x :: r)
    rw [mvs]
    simp only [List.length_cons] at *
    omega

theorem trail_snoc (l : List Mi) (x : Mi) : trail (l ++ [x]) = ext (trail l) x := by simp [trail, List.foldl_append]

theorem trail_step (l : List Mi) (k : Nat) (h : k < l.length) : trail (l.take (k + 1)) = ext (trail (l.take k)) l[k] := by
  rw [List.take_succ_eq_append_getElem h, trail_snoc]

theorem ext_le (n : Nat) (x : Mi) : ext n x ≤ n + 1 := by
  unfold ext
  split <;> omega

theorem trail_le (l : List Mi) : trail l ≤ l.length := by
  have : ∀ (l : List Mi) (n : Nat), l.foldl ext n ≤ n + l.length := by
    intro l
    induction l with
    | nil => intro n; exact Nat.le_refl _
    | cons x r ih =>
      intro n
      have h1 := ih (ext n x)
      have h2 := ext_le n x
      simp only [List.foldl_cons, List.length_cons]
      omega
  have := this l 0
  unfold trail
  omega

/-- The scan of a list from the left, by the run so far and the longest run so far. -/
theorem scan_step (run longest : Nat) (x : Mi) (r : List Mi) (h : run ≤ longest) :
    max longest (max (run + lead (x :: r)) (mvs (x :: r))) = max (max longest (ext run x)) (max (ext run x + lead r) (mvs r)) := by
  have := lead_mvs r
  rw [mvs, lead]
  unfold ext
  split
  · omega
  · omega

/-- The reference's look at the last 65 instructions. -/
theorem lead_all (l : List Mi) : lead l = l.length ↔ ∀ x ∈ l, x.mv = true := by
  induction l with
  | nil => simp [lead]
  | cons x r ih =>
    rw [lead, List.length_cons]
    cases hx : x.mv
    · simp [hx]
    · simp only [if_true]
      constructor
      · intro h y hy
        rcases List.mem_cons.1 hy with rfl | h2
        · exact hx
        · exact ih.1 (by omega) y h2
      · intro h
        rw [ih.2 fun y hy => h y (List.mem_cons_of_mem _ hy)]

theorem mvs_all (l : List Mi) : mvs l = l.length ↔ ∀ x ∈ l, x.mv = true := by
  cases l with
  | nil => simp [mvs]
  | cons x r =>
    rw [← lead_all]
    have h1 := mvs_le r
    have h2 := lead_le (x :: r)
    rw [mvs]
    simp only [List.length_cons] at *
    omega

theorem trail_all : ∀ (l : List Mi) (j : Nat), j ≤ trail l ↔ j ≤ l.length ∧ ∀ x ∈ l.drop (l.length - j), x.mv = true := by
  intro l
  have : ∀ n (l : List Mi), l.length = n → ∀ j, j ≤ trail l ↔ j ≤ l.length ∧ ∀ x ∈ l.drop (l.length - j), x.mv = true := by
    intro n
    induction n with
    | zero =>
      intro l hl j
      rw [List.eq_nil_of_length_eq_zero hl]
      simp [trail]
    | succ n ih =>
      intro l hl j
      have hne : l ≠ [] := by intro e; subst e; simp at hl
      obtain ⟨r, x, rfl⟩ : ∃ r x, l = r ++ [x] := ⟨_, _, (List.dropLast_concat_getLast hne).symm⟩
      have hr : r.length = n := by simpa using hl
      rw [trail_snoc]
      unfold ext
      rcases j with _ | j
      · simp
      · have hd : (r ++ [x]).drop ((r ++ [x]).length - (j + 1)) = r.drop (r.length - j) ++ [x] := by
          rw [List.length_append, List.length_singleton, show r.length + 1 - (j + 1) = r.length - j by omega, List.drop_append_of_le_length (by omega)]
        rw [hd]
        have h := ih r hr j
        cases hx : x.mv
        · constructor
          · intro h0; simp at h0
          · rintro ⟨_, h0⟩
            have := h0 x (by simp)
            rw [hx] at this
            cases this
        · simp only [if_true]
          constructor
          · intro h0
            obtain ⟨h1, h2⟩ := h.1 (by omega)
            refine ⟨by simp; omega, fun y hy => ?_⟩
            rcases List.mem_append.1 hy with h3 | h3
            · exact h2 y h3
            · rw [List.mem_singleton.1 h3]; exact hx
          · rintro ⟨h1, h2⟩
            have := h.2 ⟨by simp at h1; omega, fun y hy => h2 y (List.mem_append_left _ hy)⟩
            omega
  exact this l.length l rfl

/-- Behind k instructions: more than 64 moves run up to here exactly if the last 65 instructions have more than 64 in a row. -/
theorem trail_window (l : List Mi) (k : Nat) (h : k < l.length) : 64 < trail (l.take (k + 1)) ↔ 64 ≤ k ∧ 64 < mvs ((l.take (k + 1)).drop (k - 64)) := by
  have h1 := trail_all (l.take (k + 1)) 65
  have hl : (l.take (k + 1)).length = k + 1 := by rw [List.length_take]; omega
  rw [hl] at h1
  constructor
  · intro h2
    obtain ⟨h3, h4⟩ := h1.1 (by omega)
    refine ⟨by omega, ?_⟩
    rw [show k + 1 - 65 = k - 64 by omega] at h4
    have := (mvs_all _).2 h4
    rw [List.length_drop, hl] at this
    omega
  · rintro ⟨h2, h3⟩
    have h4 := mvs_le ((l.take (k + 1)).drop (k - 64))
    rw [List.length_drop, hl] at h4
    have h5 := (mvs_all ((l.take (k + 1)).drop (k - 64))).1 (by rw [List.length_drop, hl]; omega)
    have := h1.2 ⟨by omega, by rw [show k + 1 - 65 = k - 64 by omega]; exact h5⟩
    omega

/-- The first error of instructions, behind a run of moves; of a block; of blocks. -/
def eCd (regs slots : Int) : Nat → List Mi → Int
  | _, [] => 0
  | run, x :: r => if eM x regs slots = 0 then if 64 < ext run x then 15 else eCd regs slots (ext run x) r else eM x regs slots

def eMB (x : MBlk) (regs slots n : Int) : Int := if eCd regs slots 0 x.code = 0 then eT x.term regs n else eCd regs slots 0 x.code

def eMBs (regs slots n : Int) : List MBlk → Int
  | [] => 0
  | x :: r => if eMB x regs slots n = 0 then eMBs regs slots n r else eMB x regs slots n

def mcodeN (bs : List MBlk) : Nat := (bs.map fun b => b.code.length).sum

/-- The first error of the sizes; of a function. -/
def eMSz (args regs slots : Int) (bs : List MBlk) : Int :=
  if args < 0 ∨ slots < args then 10 else if regs < 0 then 9 else if 1048576 < slots ∨ 1048576 < regs then 6 else if bs.length = 0 then 14 else if 1048576 < bs.length ∨ 1048576 < mcodeN bs then 6 else 0

def eMF (args regs slots : Int) (bs : List MBlk) : Int := if eMSz args regs slots bs = 0 then eMBs regs slots bs.length bs else eMSz args regs slots bs

theorem mcodeN_nil : mcodeN [] = 0 := rfl

theorem mcodeN_cons (b : MBlk) (bs : List MBlk) : mcodeN (b :: bs) = b.code.length + mcodeN bs := by simp [mcodeN]

theorem mcodeN_append (a b : List MBlk) : mcodeN (a ++ b) = mcodeN a + mcodeN b := by rw [mcodeN, List.map_append, List.sum_append]; rfl

theorem mcodeN_step (bs : List MBlk) (k : Nat) (h : k < bs.length) : mcodeN (bs.take (k + 1)) = mcodeN (bs.take k) + bs[k].code.length := by
  rw [List.take_succ_eq_append_getElem h, mcodeN_append, mcodeN_cons, mcodeN_nil, Nat.add_zero]

theorem mcodeN_take (bs : List MBlk) (k : Nat) : mcodeN (bs.take k) ≤ mcodeN bs := by
  have : mcodeN bs = mcodeN (bs.take k) + mcodeN (bs.drop k) := by rw [← mcodeN_append, List.take_append_drop]
  omega

theorem mcodeN_mem (bs : List MBlk) (k : Nat) (h : k < bs.length) : bs[k].code.length ≤ mcodeN bs := by
  have := mcodeN_step bs k h
  have := mcodeN_take bs (k + 1)
  omega

theorem eCd_step (regs slots : Int) (l : List Mi) (run k : Nat) (h : k < l.length) :
    eCd regs slots run (l.drop k) = if eM l[k] regs slots = 0 then if 64 < ext run l[k] then 15 else eCd regs slots (ext run l[k]) (l.drop (k + 1)) else eM l[k] regs slots := by
  rw [List.drop_eq_getElem_cons h]
  rfl

theorem eMBs_step (regs slots n : Int) (l : List MBlk) (k : Nat) (h : k < l.length) : eMBs regs slots n (l.drop k) = if eMB l[k] regs slots n = 0 then eMBs regs slots n (l.drop (k + 1)) else eMB l[k] regs slots n := by
  rw [List.drop_eq_getElem_cons h]
  rfl

/-- Instructions are accepted exactly if each is, and no run of moves is too long. -/
theorem eCd_ok (regs slots : Int) : ∀ (l : List Mi) (run : Nat), run ≤ 64 → (eCd regs slots run l = 0 ↔ (∀ x ∈ l, eM x regs slots = 0) ∧ run + lead l ≤ 64 ∧ mvs l ≤ 64)
  | [], run, h => by simp [eCd, lead, mvs, h]
  | x :: r, run, h => by
    have hm := lead_mvs r
    rw [eCd, mvs, lead]
    by_cases h0 : eM x regs slots = 0
    · rw [if_pos h0]
      by_cases h1 : 64 < ext run x
      · rw [if_pos h1]
        constructor
        · intro h2; cases h2
        · rintro ⟨_, h3, _⟩
          exfalso
          unfold ext at h1
          split at h1
          · rename_i hx; rw [if_pos hx] at h3; omega
          · omega
      · rw [if_neg h1, eCd_ok regs slots r (ext run x) (by omega)]
        unfold ext at h1 ⊢
        simp only [List.mem_cons, forall_eq_or_imp]
        split at h1
        · rename_i hx
          simp only [if_pos hx]
          constructor
          · rintro ⟨a, b, c⟩
            exact ⟨⟨h0, a⟩, by omega, by omega⟩
          · rintro ⟨⟨_, a⟩, b, c⟩
            exact ⟨a, by omega, by omega⟩
        · rename_i hx
          simp only [if_neg hx]
          constructor
          · rintro ⟨a, b, c⟩
            exact ⟨⟨h0, a⟩, by omega, by omega⟩
          · rintro ⟨⟨_, a⟩, b, c⟩
            exact ⟨a, by omega, by omega⟩
    · rw [if_neg h0]
      constructor
      · intro h2; exact absurd h2 h0
      · rintro ⟨h2, _⟩; exact absurd (h2 x (by simp)) h0

theorem eM_range (x : Mi) (regs slots : Int) : 0 ≤ eM x regs slots ∧ eM x regs slots ≤ 16 := by
  have := eI_range x.ins regs
  unfold eM eMv eOt
  repeat' split
  all_goals omega

theorem eCd_range (regs slots : Int) : ∀ (l : List Mi) (run : Nat), 0 ≤ eCd regs slots run l ∧ eCd regs slots run l ≤ 16
  | [], run => by rw [eCd]; decide
  | x :: r, run => by
    have := eM_range x regs slots
    have := eCd_range regs slots r (ext run x)
    rw [eCd]
    repeat' split
    all_goals omega

end Go.Proofs.YtkapmfopfddmbaaGreat

/-
  Words for memory, continued: which blocks a step may turn, and blocks that are known whole.
-/
namespace Go.Proofs.YtkapmfopfddmbaaGreat
open Go.RowKit

/-- Of the blocks that are there, only those of which S speaks may have turned. -/
structure Mods (S : Nat → Prop) (w w' : World) : Prop where
  os : w'.os = w.os
  tape : w'.tape = w.tape
  output : w'.output = w.output
  size : w.heap.size ≤ w'.heap.size
  block : ∀ k, k < w.heap.size → ¬ S k → w'.heap[k]? = w.heap[k]?

def Is (p : Nat) : Nat → Prop := fun k => k = p

def No : Nat → Prop := fun _ => False

section
variable {S S' : Nat → Prop} {a b c w w' : World}

theorem Mods.refl (S : Nat → Prop) (w : World) : Mods S w w := ⟨rfl, rfl, rfl, Nat.le_refl _, fun _ _ _ => rfl⟩

theorem Mods.trans (h : Mods S a b) (k : Mods S b c) : Mods S a c :=
  ⟨k.os.trans h.os, k.tape.trans h.tape, k.output.trans h.output, Nat.le_trans h.size k.size, fun i hi hn => (k.block i (Nat.lt_of_lt_of_le hi h.size) hn).trans (h.block i hi hn)⟩

theorem Mods.mono (h : Mods S a b) (hS : ∀ k, S k → S' k) : Mods S' a b := ⟨h.os, h.tape, h.output, h.size, fun k hk hn => h.block k hk fun hs => hn (hS k hs)⟩

/-- A step that turns only what is new to the first world may follow. -/
theorem Mods.then (h : Mods S a b) (k : Mods S' b c) (hS : ∀ k, S' k → S k ∨ a.heap.size ≤ k) : Mods S a c :=
  ⟨k.os.trans h.os, k.tape.trans h.tape, k.output.trans h.output, Nat.le_trans h.size k.size, fun i hi hn => (k.block i (Nat.lt_of_lt_of_le hi h.size) fun hs => (hS i hs).elim hn fun hh => by omega).trans (h.block i hi hn)⟩

theorem Mods.of_below (h : Below a.heap.size a b) : Mods S a b := ⟨h.os, h.tape, h.output, h.size, fun k hk _ => h.block k hk⟩

theorem Mods.below {B : Nat} (h : Mods S a b) (hB : B ≤ a.heap.size) (hS : ∀ k, S k → B ≤ k) : Below B a b :=
  ⟨h.os, h.tape, h.output, h.size, fun k hk => h.block k (by omega) fun hs => by have := hS k hs; omega⟩

theorem Mods.drew (h : Mods S a w) : Mods S a w.drew := ⟨h.os, h.tape, h.output, h.size, h.block⟩

theorem Mods.drewN (h : Mods S a w) (n : Nat) : Mods S a (w.drewN n) := ⟨h.os, h.tape, h.output, h.size, h.block⟩

theorem Mods.un (h : Mods S a.drew w) : Mods S a w := ⟨h.os, h.tape, h.output, h.size, h.block⟩

theorem Mods.unN {n : Nat} (h : Mods S (a.drewN n) w) : Mods S a w := ⟨h.os, h.tape, h.output, h.size, h.block⟩

theorem Mods.alloc (h : Mods S a w) (o : Obj) : Mods S a (w.alloc o) :=
  ⟨h.os, h.tape, h.output, Nat.le_trans h.size (by simp), fun k hk hn => (Below.heap_alloc w o k (Nat.lt_of_lt_of_le hk h.size)).trans (h.block k hk hn)⟩

theorem Mods.setCell (h : Mods S a w) {p : Addr} (hp : S p.block ∨ a.heap.size ≤ p.block) (u : Value) : Mods S a (w.setCell p u) :=
  ⟨h.os, h.tape, h.output, Nat.le_trans h.size (by simp [World.setCell]), fun k hk hn => (Below.heap_setCell w p u k (by
    rintro rfl
    exact hp.elim hn fun hh => by omega)).trans (h.block k hk hn)⟩

theorem Mods.put {p : Nat} (h : Mods (Is p) a w) (i : Nat) (u : Value) : Mods (Is p) a (w.setCell ⟨p, i, none⟩ u) := h.setCell (p := ⟨p, i, none⟩) (.inl rfl) u

theorem Mods.grown {row : Option Nat} (h : Mods S a w) (hg : w.grownBy w' row) (hr : ∀ k, row = some k → S k ∨ a.heap.size ≤ k) : Mods S a w' :=
  ⟨hg.os.trans h.os, hg.tape.trans h.tape, hg.output.trans h.output, Nat.le_trans h.size hg.size, fun k hk hn => (hg.block k (Nat.lt_of_lt_of_le hk h.size) (fun e => by
    rcases hr k e.symm with h1 | h1
    · exact hn h1
    · omega)).trans (h.block k hk hn)⟩

theorem Mods.cell (h : Mods S w w') {p : Addr} (hp : p.block < w.heap.size) (hn : ¬ S p.block) : w'.cell? p = w.cell? p := World.cell?_of_block (w := w) (h.block p.block hp hn)

theorem Mods.frozen (h : Mods S w w') {p : Addr} (hp : p.block < w.heap.size) (hn : ¬ S p.block) : w'.frozen? p = w.frozen? p := World.frozen?_of_block (w := w) (h.block p.block hp hn)

theorem Mods.sees {B : Nat} {A : Option Addr} {xs : List Value} (h : Mods S w w') (hs : Sees w B A xs) (hB : B ≤ w.heap.size) (hA : ∀ x, A = some x → ¬ S x.block) : Sees w' B A xs := fun hn => by
  obtain ⟨b, o, rfl, hb, hc⟩ := hs hn
  exact ⟨b, o, rfl, hb, fun i u hu => (h.cell (p := ⟨b, o + i, none⟩) (by show b < _; omega) (hA ⟨b, o, none⟩ rfl)).trans (hc i u hu)⟩

theorem Mods.own {base n : Nat} {e : TypeId} {v : Value} {xs : List Value} (h : Mods S w w') (ho : w.ownsRow base e 1 v n xs) (hS : ∀ k, v.ownBlock = some k → ¬ S k) : w'.ownsRow base e 1 v n xs := by
  obtain ⟨h1, h2⟩ := ho
  refine ⟨h1, ?_⟩
  rcases h2 with h2 | ⟨g, cap, cur, rfl, hg, hh, r⟩
  · exact Or.inl h2
  · exact Or.inr ⟨g, cap, cur, rfl, hg, (h.block g (Array.getElem?_eq_some_iff.1 hh).1 (hS g (by simp [Value.ownBlock]))).trans hh, r⟩

end

/-- Block p is just the cells cs of element type T, none of them frozen. -/
def Row (w : World) (p : Nat) (T : TypeId) (cs : Array Value) : Prop := w.heap[p]? = some (.cells cs T (0, 0))

section
variable {S : Nat → Prop} {w w' : World} {p : Nat} {T : TypeId} {cs : Array Value}

theorem Row.lt (h : Row w p T cs) : p < w.heap.size := (Array.getElem?_eq_some_iff.1 h).1

theorem Row.cell (h : Row w p T cs) (i : Nat) : w.cell? ⟨p, i, none⟩ = cs[i]? := cell_of_row w p i cs T (0, 0) h

theorem Row.k0 {a : Value} {r : List Value} (h : Row w p T (a :: r).toArray) : w.cell? ⟨p, 0, none⟩ = some a := cell_of_row w p 0 _ T (0, 0) h

theorem Row.k1 {a b : Value} {r : List Value} (h : Row w p T (a :: b :: r).toArray) : w.cell? ⟨p, 1, none⟩ = some b := cell_of_row w p 1 _ T (0, 0) h

theorem Row.k2 {a b c : Value} {r : List Value} (h : Row w p T (a :: b :: c :: r).toArray) : w.cell? ⟨p, 2, none⟩ = some c := cell_of_row w p 2 _ T (0, 0) h

theorem Row.k3 {a b c d : Value} {r : List Value} (h : Row w p T (a :: b :: c :: d :: r).toArray) : w.cell? ⟨p, 3, none⟩ = some d := cell_of_row w p 3 _ T (0, 0) h

theorem Row.k4 {a b c d e : Value} {r : List Value} (h : Row w p T (a :: b :: c :: d :: e :: r).toArray) : w.cell? ⟨p, 4, none⟩ = some e := cell_of_row w p 4 _ T (0, 0) h

theorem Row.k5 {a b c d e f : Value} {r : List Value} (h : Row w p T (a :: b :: c :: d :: e :: f :: r).toArray) : w.cell? ⟨p, 5, none⟩ = some f := cell_of_row w p 5 _ T (0, 0) h

theorem Row.k6 {a b c d e f g : Value} {r : List Value} (h : Row w p T (a :: b :: c :: d :: e :: f :: g :: r).toArray) : w.cell? ⟨p, 6, none⟩ = some g := cell_of_row w p 6 _ T (0, 0) h

theorem Row.k7 {a b c d e f g i : Value} {r : List Value} (h : Row w p T (a :: b :: c :: d :: e :: f :: g :: i :: r).toArray) : w.cell? ⟨p, 7, none⟩ = some i := cell_of_row w p 7 _ T (0, 0) h

theorem Row.k8 {a b c d e f g i j : Value} {r : List Value} (h : Row w p T (a :: b :: c :: d :: e :: f :: g :: i :: j :: r).toArray) : w.cell? ⟨p, 8, none⟩ = some j := cell_of_row w p 8 _ T (0, 0) h

theorem Row.k9 {a b c d e f g i j l : Value} {r : List Value} (h : Row w p T (a :: b :: c :: d :: e :: f :: g :: i :: j :: l :: r).toArray) : w.cell? ⟨p, 9, none⟩ = some l := cell_of_row w p 9 _ T (0, 0) h

theorem Row.k10 {a b c d e f g i j l m : Value} {r : List Value} (h : Row w p T (a :: b :: c :: d :: e :: f :: g :: i :: j :: l :: m :: r).toArray) : w.cell? ⟨p, 10, none⟩ = some m := cell_of_row w p 10 _ T (0, 0) h

theorem Row.k11 {a b c d e f g i j l m n : Value} {r : List Value} (h : Row w p T (a :: b :: c :: d :: e :: f :: g :: i :: j :: l :: m :: n :: r).toArray) : w.cell? ⟨p, 11, none⟩ = some n := cell_of_row w p 11 _ T (0, 0) h

theorem Row.frozen (h : Row w p T cs) (i : Nat) : w.frozen? ⟨p, i, none⟩ = false := by
  unfold Row at h
  simp [World.frozen?, h]

theorem Row.new (w : World) (T : TypeId) (cs : Array Value) : Row (w.alloc (.cells cs T)) w.heap.size T cs := heap_alloc_new w _

theorem Row.drew (h : Row w p T cs) : Row w.drew p T cs := h

theorem Row.drewN (h : Row w p T cs) (n : Nat) : Row (w.drewN n) p T cs := h

theorem Row.alloc (h : Row w p T cs) (o : Obj) : Row (w.alloc o) p T cs := (Below.heap_alloc w o p h.lt).trans h

theorem Row.put (h : Row w p T cs) (i : Nat) (u : Value) : Row (w.setCell ⟨p, i, none⟩ u) p T (cs.setIfInBounds i u) := by
  unfold Row at h ⊢
  simp [World.setCell, Array.getElem?_modify, h]

theorem Row.far (h : Row w p T cs) {q : Addr} (hq : p ≠ q.block) (u : Value) : Row (w.setCell q u) p T cs := (Below.heap_setCell w q u p hq).trans h

theorem Row.mods (h : Row w p T cs) (hm : Mods S w w') (hp : ¬ S p) : Row w' p T cs := (hm.block p h.lt hp).trans h

theorem Row.below {B : Nat} (h : Row w p T cs) (hb : Below B w w') (hp : p < B) : Row w' p T cs := (hb.block p hp).trans h

end

end Go.Proofs.YtkapmfopfddmbaaGreat

/-
  Appending a slice that is seen (nil, empty or not) to a slice that the call owns.
-/
namespace Go.Proofs.YtkapmfopfddmbaaGreat
open Go.RowKit

section
variable {P : Program} (w : World)

theorem run_append_none (base : Nat) (t ty e : TypeId) (i : TypeInfo) (size : Nat) (ht : P.underlying t = some (.slice e)) (hi : P.info? e = some i)
    (v : Value) (n : Nat) (xs : List Value) (hown : w.ownsRow base e size v n xs) (c : Nat) : (Builtin.append_ #[t, t] ty #[v, .slice none 0 c]).run P w = .ok v w := by
  rcases hown.2 with ⟨rfl, rfl⟩ | ⟨g, cap, cur, rfl, _, _, hnc, _⟩
  · simp [Builtin.append_, run_underlying ht, sizeOf, typeInfo, hi, Builtin.lenOf, Builtin.firstCells]
  · simp [Builtin.append_, run_underlying ht, sizeOf, typeInfo, hi, Builtin.lenOf, Builtin.firstCells, hnc, storeCells]

theorem wpList_append_sees {ops : Array Oper} {rest : List Oper} {o : Oper} {a : Act} {Q : Exit → Act → World → Prop} (hgd : o.guard = none) (s x : Operand) (t : TypeId)
    (ho : o.op = .call { callee := .builtin .append, args := #[s, x], argTypes := #[t, t] })
    (base : Nat) (e : TypeId) (i : TypeInfo) (z : Value) (bytes : Nat) (ht : P.underlying t = some (.slice e)) (hi : P.info? e = some i) (hz : i.zero = some z)
    (hsize : i.size = 1) (hby : i.bytes = bytes) (hzs : z.cells.size = 1)
    (v : Value) (n : Nat) (xs : List Value) (hs : a.eval s = v) (hown : w.ownsRow base e 1 v n xs)
    (B : Nat) (A : Option Addr) (m c : Nat) (news : List Value) (hx : a.eval x = .slice A m c) (hr : Sees w B A news) (hl : news.length = m) (h1 : ∀ u ∈ news, u.oneCell' = true)
    (h63 : n + m ≤ maxLen) (hbytes : (n + m) * bytes ≤ 140737488355328) (hbase : base ≤ w.heap.size)
    (h : ∀ v' w', w'.ownsRow base e 1 v' (n + m) (xs ++ news) → w.grownBy w' v.ownBlock → wpList P ops Q rest (a.put o.dst v') w') : wpList P ops Q (o :: rest) a w := by
  rcases A with _ | ad
  · have hn : news = [] := by
      rcases news with _ | ⟨y, ys⟩
      · rfl
      · obtain ⟨b, o, h, _⟩ := hr (by simp)
        cases h
    subst hn
    obtain rfl : m = 0 := by simpa using hl.symm
    refine wpList_plain hgd fun K hK => ?_
    have hrun := run_append_none (P := P) w base t o.type e i 1 ht hi v n xs hown c
    unfold Oper.wp execOp
    simp only [ho, resolve, invoke, builtin, Sem.run_bind, Sem.run_pure, Result.andThen_ok, List.map_toArray, List.map_cons, List.map_nil, hs, hx, hrun]
    exact hK _ _ (h v w (by simpa using hown) (World.grownBy.refl _ _))
  · refine wpList_append_own w hgd s x t ho base e i z 1 bytes ht hi hz hsize hby hzs (by decide) v n xs hs hown ad m c news hx (by omega) ?_ h1 h63 hbytes hbase fun v' w' a b _ => h v' w' a b
    intro j u hu
    obtain ⟨b, o, hA, _, hc⟩ := hr (by intro e; subst e; simp at hu)
    injection hA with hA
    subst hA
    simpa [Addr.add_lit] using hc j u hu

end

end Go.Proofs.YtkapmfopfddmbaaGreat

/-
  A cursor in memory, and the methods that only read it: Err, At, Left; bytes.Clone.
-/
namespace Go.Proofs.YtkapmfopfddmbaaGreat
open Go.RowKit

theorem infoU8 : (Tryz.prog.info? 5).map (fun i => (i.zero, i.size, i.bytes)) = some (some (.int .u8 0), 1, 1) := by kernel_rfl

/-- The cursor at block p: the bytes l, whose block lies from lo on and ahead of p, the offset and the error. -/
structure Cur (w : World) (lo p : Nat) (l : List Nat) (i : Nat) (er : Int) (A : Option Addr) (c : Nat) : Prop where
  row : Row w p 89 #[.slice A l.length c, .int .i64 i, .int .i64 er]
  sees : Sees w p A (bts l)
  off : ∀ x, A = some x → lo ≤ x.block ∧ x.block < p
  lop : lo ≤ p
  byt : Byt l
  le : i ≤ l.length
  lec : l.length ≤ c
  cmax : c ≤ maxLen

section
variable {w w' : World} {lo p : Nat} {l : List Nat} {i : Nat} {er : Int} {A : Option Addr} {c : Nat}

theorem Cur.max (h : Cur w lo p l i er A c) : l.length ≤ maxLen := Nat.le_trans h.lec h.cmax

theorem Cur.mods {S : Nat → Prop} (h : Cur w lo p l i er A c) (hm : Mods S w w') (hp : ∀ k, S k → k < lo ∨ p < k) : Cur w' lo p l i er A c :=
  have hn : ¬ S p := fun hs => by have := hp p hs; have := h.lop; omega
  ⟨h.row.mods hm hn, hm.sees h.sees (Nat.le_of_lt h.row.lt) fun x hx hs => by have := hp _ hs; have := h.off x hx; omega, h.off, h.lop, h.byt, h.le, h.lec, h.cmax⟩

theorem Cur.drew (h : Cur w lo p l i er A c) : Cur w.drew lo p l i er A c := ⟨h.row, h.sees, h.off, h.lop, h.byt, h.le, h.lec, h.cmax⟩

theorem Cur.drewN (h : Cur w lo p l i er A c) (n : Nat) : Cur (w.drewN n) lo p l i er A c := ⟨h.row, h.sees, h.off, h.lop, h.byt, h.le, h.lec, h.cmax⟩

theorem Cur.err (h : Cur w lo p l i er A c) (e : Int) : Cur (w.setCell ⟨p, 2, none⟩ (.int .i64 e)) lo p l i e A c :=
  ⟨h.row.put 2 _, h.sees.setCell (p := ⟨p, 2, none⟩) (Nat.le_refl _) _, h.off, h.lop, h.byt, h.le, h.lec, h.cmax⟩

theorem Cur.at_ (h : Cur w lo p l i er A c) (j : Nat) (hj : j ≤ l.length) : Cur (w.setCell ⟨p, 1, none⟩ (.int .i64 j)) lo p l j er A c :=
  ⟨h.row.put 1 _, h.sees.setCell (p := ⟨p, 1, none⟩) (Nat.le_refl _) _, h.off, h.lop, h.byt, hj, h.lec, h.cmax⟩

end

set_option maxRecDepth 100000 in
set_option maxHeartbeats 400000 in
theorem err_any {w : World} {lo p : Nat} {l : List Nat} {i : Nat} {er : Int} {A : Option Addr} {c : Nat} (h : Cur w lo p l i er A c) :
    Calls Tryz.prog 44 #[.pointer (some ⟨p, 0, none⟩)] w fun e w' => e = .returned (.int .i64 er) ∧ w = w' := by
  have h2 : w.cell? ⟨p, 2, none⟩ = some (.int .i64 er) := h.row.cell 2
  clear h
  go_enter Tryz.func44, Tryz.ntmps44
  go_wp2
  go_ret
  exact ⟨rfl, rfl⟩

set_option maxRecDepth 100000 in
set_option maxHeartbeats 400000 in
theorem err_nil (w : World) :
    Calls Tryz.prog 44 #[.pointer none] w fun e w' => e = .returned (.int .i64 32) ∧ w = w' := by
  go_enter Tryz.func44, Tryz.ntmps44
  go_wp2
  go_ret
  exact ⟨rfl, rfl⟩

/-- What Left returns. -/
def leftS (n i : Nat) (er : Int) : Int := if er = 0 then (n : Int) - i else 0

theorem leftS_ok (n i : Nat) : leftS n i 0 = (n : Int) - i := rfl

theorem leftS_bad (n i : Nat) {er : Int} (h : er ≠ 0) : leftS n i er = 0 := if_neg h

set_option maxRecDepth 100000 in
set_option maxHeartbeats 1000000 in
theorem left_any {w : World} {lo p : Nat} {l : List Nat} {i : Nat} {er : Int} {A : Option Addr} {c : Nat} (h : Cur w lo p l i er A c) :
    Calls Tryz.prog 20 #[.pointer (some ⟨p, 0, none⟩)] w fun e w' => e = .returned (.int .i64 (leftS l.length i er)) ∧ ∃ n, w.drewN n = w' := by
  have h0 : w.cell? ⟨p, 0, none⟩ = some (.slice A l.length c) := h.row.cell 0
  have h1 : w.cell? ⟨p, 1, none⟩ = some (.int .i64 i) := h.row.cell 1
  have hle := h.le
  have hmx := h.max
  unfold maxLen at hmx
  by_cases he : er = 0
  · have e0 : (er != 0) = false := by simp [he]
    have HE := Lib.hid (show leftS l.length i er = (l.length : Int) - i by rw [he]; rfl)
    clear he
    go_enter Tryz.func20, Tryz.ntmps20
    go_wp2_with fail
    refine (err_any h).mono ?_
    rintro e W ⟨rfl, rfl⟩
    clear h
    go_wp2_with fail
    go_quiet (fail)
    go_wp2
    go_ret
    exact ⟨by rw [HE.out]; rfl, _, rfl⟩
  · have e0 : (er != 0) = true := by simp [he]
    have HE := Lib.hid (leftS_bad l.length i he)
    clear he
    go_enter Tryz.func20, Tryz.ntmps20
    go_wp2_with fail
    refine (err_any h).mono ?_
    rintro e W ⟨rfl, rfl⟩
    go_wp2
    go_ret
    exact ⟨by rw [HE.out]; rfl, 0, rfl⟩

/-- The library's Clone: nil for nil, and else a new slice with the same bytes. -/
theorem clone_any (A : Option Addr) (l : List Nat) (B c : Nat) (w : World) (hs : Sees w B A (bts l)) (hB : B ≤ w.heap.size) (hm : l.length ≤ 70368744177664) :
    Calls Tryz.prog 40 #[.slice A l.length c] w fun e w' => ∃ A' c', e = .returned (.slice A' l.length c') ∧
      w'.ownsRow w.heap.size 5 1 (.slice A' l.length c') l.length (bts l) ∧ Below w.heap.size w w' ∧ l.length ≤ c' ∧ c' ≤ maxLen ∧ (∀ x, A' = some x → w.heap.size ≤ x.block ∧ x.block < w'.heap.size) := by
  rcases A with _ | ad
  · obtain rfl : l = [] := by
      rcases l with _ | ⟨x, r⟩
      · rfl
      · obtain ⟨b, o, h, _⟩ := hs (by simp [bts])
        cases h
    have q22 : ∀ (w : World) (n c n' c' : Nat), (binOp .eql 33 (.slice none n c) (.slice none n' c')).run Tryz.prog w = .ok (.bool true) w := fun w n c n' c' => Lib.run_eql_slice_nil w _ _ _ n c n' c' Tryz.underlying33
    clear hs hm hB
    go_enter Tryz.func40, Tryz.ntmps40
    go_wp2
    go_ret
    exact ⟨none, 0, rfl, ⟨rfl, .inl ⟨rfl, rfl⟩⟩, Below.refl _ _, Nat.le_refl _, Nat.zero_le _, fun _ h => by cases h⟩
  · have q22 : ∀ (w : World) (n c n' c' : Nat), (binOp .eql 33 (.slice (some ad) n c) (.slice none n' c')).run Tryz.prog w = .ok (.bool false) w := fun w n c n' c' => Lib.run_eql_slice_nil w _ _ _ n c n' c' Tryz.underlying33
    obtain ⟨i0, hi, hz0, hz1, hz2⟩ := info_parts infoU8
    have hs1 := (hs.more hB).alloc (Nat.le_refl _) (.cells #[] 5)
    clear hs
    go_enter Tryz.func40, Tryz.ntmps40
    go_wp2_with (at_builtin; refine wpList_append_sees _ rfl (.tmp 5) (.tmp 6) 33 rfl w.heap.size 5 i0 (.int .u8 0) 1 Tryz.underlying33 hi hz0 hz1 hz2 rfl _ _ _ rfl (World.ownsRow_made w #[] 0 (Nat.le_refl _) (by decide) rfl) w.heap.size _ _ _ (bts l) rfl hs1 (bts_length _) (bts_one _) ?c1 ?c2 ?c3 ?_)
    case c1 => unfold maxLen; omega
    case c2 => omega
    case c3 => simp
    intro v1 W1 ho1 hg1
    have hb1 : Below w.heap.size w W1 := ((Below.refl _ _).alloc (Nat.le_refl _) _).grown hg1 (by simp) (fun k hk => by simp [Value.ownBlock] at hk; omega)
    have ho2 : W1.ownsRow w.heap.size 5 1 v1 l.length (bts l) := by simpa using ho1
    clear ho1 hg1
    rcases ho2.2 with ⟨rfl, h0⟩ | ⟨g, cap, cur, rfl, hg0, hh, hc1, hc2, _⟩
    · have h0' : l.length = 0 := h0
      go_wp2
      go_ret
      refine ⟨none, 0, by rw [h0']; rfl, by rw [h0'] at ho2 ⊢; exact ho2, hb1, by omega, Nat.zero_le _, fun _ h => by cases h⟩
    · have hlt := (Array.getElem?_eq_some_iff.1 hh).1
      go_wp2
      go_ret
      refine ⟨some ⟨g, 0, none⟩, cap, rfl, ho2, hb1, hc1, hc2, fun x h => ?_⟩
      injection h with h
      subst h
      exact ⟨hg0, hlt⟩

end Go.Proofs.YtkapmfopfddmbaaGreat

/-
  The method that all reads of a cursor share, for a reading function that turns no memory that was there.
-/
namespace Go.Proofs.YtkapmfopfddmbaaGreat
open Go.RowKit

/-- A read: what it returns, the offset and the error after it; r is what the reading function returns for the bytes that are left. -/
def stepV (er : Int) (r : Nat × Nat × Nat) : Nat := if er = 0 ∧ r.2.2 = 0 then r.1 else 0

def stepI (i : Nat) (er : Int) (r : Nat × Nat × Nat) : Nat := if er = 0 ∧ r.2.2 = 0 then i + r.2.1 else i

def stepE (er : Int) (r : Nat × Nat × Nat) : Int := if er = 0 then r.2.2 else er

def CurP (v : Int) (S : Nat → Prop) (w : World) (Q : World → Prop) (e : Ending) (w' : World) : Prop := e = .returned (.int .u64 v) ∧ Mods S w w' ∧ Q w'


set_option maxRecDepth 100000 in
set_option maxHeartbeats 1000000 in
theorem read_quiet (K : FuncId) (caps : Array Value) (hK : ∀ args W, (callFunc K args).run Tryz.prog W = .ok (.enter K args) W) {w : World} {lo p : Nat} {l : List Nat} {i : Nat} {er : Int} {A : Option Addr} {c : Nat} (h : Cur w lo p l i er A c) (r : Nat × Nat × Nat)
    (hr : r.2.1 ≤ (l.drop i).length)
    (H : Hid (∀ A' c' n, Sees w p A' (bts (l.drop i)) → Calls Tryz.prog K (#[.slice A' (l.length - i) c'] ++ caps) (w.drewN n) fun e w' => e = .returned (.tuple #[.int .u64 r.1, .int .i64 r.2.1, .int .i64 r.2.2]) ∧ ∃ m, w' = w.drewN m)) :
    Calls Tryz.prog 41 #[.pointer (some ⟨p, 0, none⟩), .func (.func K) #[] caps] w (CurP (stepV er r) (Is p) w fun w' => Cur w' lo p l (stepI i er r) (stepE er r) A c) := by
  have h0 : w.cell? ⟨p, 0, none⟩ = some (.slice A l.length c) := h.row.cell 0
  have h1 : w.cell? ⟨p, 1, none⟩ = some (.int .i64 i) := h.row.cell 1
  have h2 : w.cell? ⟨p, 2, none⟩ = some (.int .i64 er) := h.row.cell 2
  have f1 := h.row.frozen 1
  have f2 := h.row.frozen 2
  have hle := h.le
  have hmx := h.max
  have hlc := h.lec
  unfold maxLen at hmx
  by_cases he : er = 0
  · subst he
    have hdl : (l.drop i).length = l.length - i := by simp
    have hn : r.2.1 ≤ l.length - i := by omega
    have hs := h.sees.drop (k := i) (by rw [bts_length]; exact hlc)
    rw [show (bts l).drop i = bts (l.drop i) from by simp [bts]] at hs
    clear hdl hr
    obtain ⟨v, n, e⟩ := r
    simp only at H hn
    by_cases hci : c = i
    case' pos => rw [if_pos hci] at hs
    case' neg => rw [if_neg hci] at hs
    all_goals
      have Hs := Lib.hid hs
      clear hs
      go_enter Tryz.func41, Tryz.ntmps41
      go_wp2_with fail
      refine (err_any h).mono ?_
      rintro e W ⟨rfl, rfl⟩
      have HC := Lib.hid h
      clear h
      go_wp2_with fail
      go_quiet (exact H.out _ _ _ Hs.out)
      by_cases h3 : e = 0
      · subst h3
        go_wp2
        go_ret
        exact ⟨rfl, ((Mods.refl _ _).drewN _).put 1 _, by have := (HC.out.drewN nq).at_ (i + n) (by omega); rwa [Int.natCast_add] at this⟩
      · have e3 : ((e : Int) != 0) = true := by simp; omega
        have HV := Lib.hid (show stepV 0 (v, n, e) = 0 from if_neg fun h => h3 h.2)
        have HI := Lib.hid (show stepI i 0 (v, n, e) = i from if_neg fun h => h3 h.2)
        go_wp2
        go_ret
        exact ⟨by rw [HV.out]; rfl, ((Mods.refl _ _).drewN _).put 2 _, by rw [HI.out]; exact (HC.out.drewN nq).err e⟩
  · have e3 : (er != 0) = true := by simp [he]
    have HV := Lib.hid (show stepV er r = 0 from if_neg fun h => he h.1)
    have HI := Lib.hid (show stepI i er r = i from if_neg fun h => he h.1)
    have HE := Lib.hid (show stepE er r = er from if_neg he)
    clear he
    go_enter Tryz.func41, Tryz.ntmps41
    go_wp2_with fail
    refine (err_any h).mono ?_
    rintro e W ⟨rfl, rfl⟩
    go_wp2
    go_ret
    exact ⟨by rw [HV.out]; rfl, Mods.refl _ _, by rw [HI.out, HE.out]; exact h⟩

end Go.Proofs.YtkapmfopfddmbaaGreat

/-
  Decoding: the program's Get and the reference's Get both return what getS computes, and leave memory as it was.
-/
namespace Go.Proofs.YtkapmfopfddmbaaGreat
open Go.RowKit

set_option maxRecDepth 100000 in
set_option maxHeartbeats 1000000 in
theorem get_any (B : Nat) (A : Option Addr) (l : List Nat) (cap : Nat) (w : World) (hs : Sees w B A (bts l)) (hb : Byt l) (hm : l.length ≤ maxLen) :
    Calls Tryz.prog 76 #[.slice A l.length cap] w fun e w' => e = .returned (.tuple #[.int .u64 (getS l).1, .int .i64 (getS l).2.1, .int .i64 (getS l).2.2]) ∧ w = w' := by
  unfold maxLen at hm
  go_enter Tryz.func76, Tryz.ntmps76
  go_wp2
  go_loop [5, 10] (fun v i => ∃ k u : Nat, k ≤ l.length ∧ k ≤ 9 ∧ i = .int .i64 k ∧ v = .int .u64 u ∧ GetAt l k u) (fun _ i => l.length - (intOf i).toNat)
  case atStart => exact ⟨0, 0, Nat.zero_le _, by omega, rfl, rfl, GetAt.zero l⟩
  case round =>
    obtain ⟨k, u, hk, hk9, rfl, rfl, hat⟩ := hrel
    by_cases hlt : k < l.length
    · obtain ⟨b, o, rfl, _, hc⟩ := hs (bts_ne hlt)
      have hcell : w.cell? ⟨b, o + k, none⟩ = some (.int .u8 (l[k] : Int)) := hc k _ (by simp [bts, hlt])
      have hx : l[k] < 256 := hb _ (List.getElem_mem hlt)
      have hbad := hat.bad hlt
      have hlast := hat.last hlt
      have hmore := fun h1 h2 => GetAt.more hat hlt h1 h2 hx
      have hor := or_step (k := k) (x := l[k]) hk9 hat.2.1 hx
      clear hc hs hb
      generalize l[k] = x at hcell hx hbad hlast hmore hor
      have HB := Lib.hid hbad; have HL := Lib.hid hlast; have HM := Lib.hid hmore; have HO := Lib.hid hor
      clear hbad hlast hmore hor
      rcases ways8 k x hk9 with ⟨h1, h2⟩ | ⟨h1, h2⟩ | ⟨h1, h2⟩ | ⟨h1, h2, h3⟩ | ⟨h1, h2, h3, h4⟩ | ⟨h1, h2, h3⟩ | ⟨h1, h2⟩ | ⟨h1, h2⟩
      · have e9 : ((k : Int) == 9) = true := beq_iff_eq.2 (by omega)
        have g1 : (1 : Int) < x := by omega
        have HE := Lib.hid (HB.out (.inl ⟨h1, h2⟩))
        clear h1 h2 hk9
        go_wp2
        go_ret3
        exact ⟨by rw [HE.out]; rfl, rfl⟩
      · have e9 : ((k : Int) == 9) = true := beq_iff_eq.2 (by omega)
        have HE := Lib.hid (HB.out (.inr ⟨by omega, h2⟩))
        have hk0 : (0 : Int) < k := by omega
        subst h2
        clear h1 hk9 HB HL HM HO
        go_wp2
        go_ret3
        exact ⟨by rw [HE.out]; rfl, rfl⟩
      · have e9 : ((k : Int) == 9) = true := beq_iff_eq.2 (by omega)
        have HE := Lib.hid (HL.out (by omega) (by omega))
        have HO' := Lib.hid (HO.out (by omega))
        have hk0 : (0 : Int) < k := by omega
        subst h2
        clear h1 HB HL HM HO
        go_wp2
        go_ret3
        exact ⟨by rw [HE.out]; exact tup3 HO'.out rfl rfl, rfl⟩
      · have e9 : ((k : Int) == 9) = false := beq_eq_false_iff_ne.2 (by omega)
        have HE := Lib.hid (HB.out (.inr ⟨h1, h3⟩))
        subst h3
        clear HB HL HM HO
        go_wp2
        go_ret3
        exact ⟨by rw [HE.out]; rfl, rfl⟩
      · have e9 : ((k : Int) == 9) = false := beq_eq_false_iff_ne.2 (by omega)
        have e0 : ((x : Int) == 0) = false := beq_eq_false_iff_ne.2 (by omega)
        have HE := Lib.hid (HL.out (by omega) h4)
        have HO' := HO.out (by omega)
        rw [Nat.mod_eq_of_lt h4] at HO'
        have HO'' := Lib.hid HO'
        clear HB HL HM HO HO'
        go_wp2
        go_ret3
        exact ⟨by rw [HE.out]; exact tup3 HO''.out rfl rfl, rfl⟩
      · have e9 : ((k : Int) == 9) = false := beq_eq_false_iff_ne.2 (by omega)
        have e0 : ((x : Int) == 0) = false := beq_eq_false_iff_ne.2 (by omega)
        have HE := Lib.hid (HM.out (by omega) (by omega))
        have HO' := HO.out (by omega)
        rw [show x % 128 = x - 128 by omega] at HO'
        have HO'' := Lib.hid HO'
        clear HB HL HM HO HO'
        go_wp2
        go_round
        case rel => exact ⟨k + 1, _, by omega, by omega, by go_num, congrArg (Value.int .u64) HO''.out, HE.out⟩
        case measure => simp [intOf]; omega
      · have e9 : ((k : Int) == 9) = false := beq_eq_false_iff_ne.2 (by omega)
        have e0 : decide ((0 : Int) < k) = false := by simp; omega
        have HE := Lib.hid (HL.out (by omega) h2)
        have HO' := HO.out (by omega)
        rw [Nat.mod_eq_of_lt h2] at HO'
        have HO'' := Lib.hid HO'
        have hk0 : (k : Int) ≤ 0 := by omega
        clear HB HL HM HO HO' h1
        go_wp2
        go_ret3
        exact ⟨by rw [HE.out]; exact tup3 HO''.out rfl rfl, rfl⟩
      · have e9 : ((k : Int) == 9) = false := beq_eq_false_iff_ne.2 (by omega)
        have e0 : decide ((0 : Int) < k) = false := by simp; omega
        have HE := Lib.hid (HM.out (by omega) (by omega))
        have HO' := HO.out (by omega)
        rw [show x % 128 = x - 128 by omega] at HO'
        have HO'' := Lib.hid HO'
        have hk0 : (k : Int) ≤ 0 := by omega
        clear HB HL HM HO HO' h1
        go_wp2
        go_round
        case rel => exact ⟨k + 1, _, by omega, by omega, by go_num, congrArg (Value.int .u64) HO''.out, HE.out⟩
        case measure => simp [intOf]; omega
    · have HE := Lib.hid (hat.short hlt)
      clear hat
      go_wp2
      go_ret3
      exact ⟨by rw [HE.out]; rfl, rfl⟩

end Go.Proofs.YtkapmfopfddmbaaGreat

/-
  The reading functions of the cursor's methods, and the methods that only need them: Byte, Uint, Int, Count, Fail, End.
-/
namespace Go.Proofs.YtkapmfopfddmbaaGreat
open Go.RowKit
set_option linter.unusedVariables false

def byteS : List Nat → Nat × Nat × Nat
  | [] => (0, 0, 1)
  | x :: _ => (x, 1, 0)

def uintS (most : Int) (l : List Nat) : Nat × Nat × Nat := if (getS l).2.2 = 0 ∧ most < ((getS l).1 : Int) then (0, 0, 6) else getS l

def countS (most size : Int) (l : List Nat) : Nat × Nat × Nat :=
  if most < 0 ∨ size < 0 then (0, 0, 32) else
  if (uintS most l).2.2 = 0 ∧ 0 < size ∧ ((l.length : Int) - (uintS most l).2.1) / size < ((uintS most l).1 : Int) then (0, 0, 1) else uintS most l

theorem getF_len : ∀ (l : List Nat) (k v : Nat), (getF k v l).2.1 ≤ k + l.length
  | [], k, v => by simp [getF]
  | c :: r, k, v => by
    rw [getF]
    split
    · simp
    · split
      · simp
      · have := getF_len r (k + 1) (v + (c - 128) * 128 ^ k)
        simp only [List.length_cons]
        omega

theorem getS_len (l : List Nat) : (getS l).2.1 ≤ l.length := by have := getF_len l 0 0; unfold getS; omega

theorem byteS_len (l : List Nat) : (byteS l).2.1 ≤ l.length := by cases l <;> simp [byteS]

theorem uintS_len (m : Int) (l : List Nat) : (uintS m l).2.1 ≤ l.length := by
  unfold uintS
  split
  · simp
  · exact getS_len l

theorem countS_len (m s : Int) (l : List Nat) : (countS m s l).2.1 ≤ l.length := by
  unfold countS
  split
  · simp
  · split
    · simp
    · exact uintS_len m l

def Trip (r : Nat × Nat × Nat) : Ending := .returned (.tuple #[.int .u64 r.1, .int .i64 r.2.1, .int .i64 r.2.2])

set_option maxRecDepth 100000 in
set_option maxHeartbeats 400000 in
theorem byteC (B : Nat) (A : Option Addr) (l : List Nat) (c : Nat) (w : World) (hs : Sees w B A (bts l)) (hb : Byt l) (hm : l.length ≤ maxLen) :
    Calls Tryz.prog 42 #[.slice A l.length c] w fun e w' => e = Trip (byteS l) ∧ w' = w := by
  unfold maxLen at hm
  rcases l with _ | ⟨x, r⟩
  · go_enter Tryz.func42, Tryz.ntmps42
    go_wp2
    go_ret3
    exact ⟨rfl, rfl⟩
  · obtain ⟨b, o, rfl, _, hc⟩ := hs (bts_ne (k := 0) (by simp))
    have hcell : w.cell? ⟨b, o, none⟩ = some (.int .u8 (x : Int)) := hc 0 _ rfl
    have hx : x < 256 := hb x (by simp)
    have h0 : ((((x :: r).length : Nat) : Int) == 0) = false := by simp; omega
    have h1 : 0 < (x :: r).length := by simp
    have HT := Lib.hid (show byteS (x :: r) = (x, 1, 0) from rfl)
    clear hc hs hb
    generalize (x :: r).length = n at hm h0 h1
    generalize byteS (x :: r) = t at HT
    go_enter Tryz.func42, Tryz.ntmps42
    go_wp2
    go_ret3
    exact ⟨by rw [HT.out]; rfl, rfl⟩

set_option maxRecDepth 100000 in
set_option maxHeartbeats 400000 in
theorem atMostC (B : Nat) (A : Option Addr) (l : List Nat) (c : Nat) (most : Int) (w : World) (hs : Sees w B A (bts l)) (hb : Byt l) (hm : l.length ≤ maxLen) (h0 : 0 ≤ most) :
    Calls Tryz.prog 65 #[.slice A l.length c, .int .u64 most] w fun e w' => e = Trip (uintS most l) ∧ w = w' := by
  have HU := Lib.hid (show uintS most l = if (getS l).2.2 = 0 ∧ most < ((getS l).1 : Int) then (0, 0, 6) else getS l from rfl)
  have HG := Lib.hid (get_any B A l c w hs hb hm)
  generalize uintS most l = u at HU
  generalize hg : getS l = g at HU HG
  obtain ⟨v, n, e⟩ := g
  clear hg
  by_cases he : e = 0
  · subst he
    by_cases hv : most < (v : Int)
    · have HU' := Lib.hid (HU.out.trans (if_pos ⟨rfl, hv⟩))
      go_enter Tryz.func65, Tryz.ntmps65
      go_wp2_with fail
      refine HG.out.mono ?_
      rintro e W ⟨rfl, rfl⟩
      go_wp2
      go_ret3
      exact ⟨by rw [HU'.out]; rfl, rfl⟩
    · have HU' := Lib.hid (HU.out.trans (if_neg fun h => hv h.2))
      have hv' : (v : Int) ≤ most := by omega
      clear hv
      go_enter Tryz.func65, Tryz.ntmps65
      go_wp2_with fail
      refine HG.out.mono ?_
      rintro e W ⟨rfl, rfl⟩
      go_wp2
      go_ret3
      exact ⟨by rw [HU'.out]; rfl, rfl⟩
  · have HU' := Lib.hid (HU.out.trans (if_neg fun h => he h.1))
    have e0 : ((e : Int) == 0) = false := by simp; omega
    go_enter Tryz.func65, Tryz.ntmps65
    go_wp2_with fail
    refine HG.out.mono ?_
    rintro e W ⟨rfl, rfl⟩
    go_wp2
    go_ret3
    exact ⟨by rw [HU'.out]; rfl, rfl⟩

set_option maxRecDepth 100000 in
set_option maxHeartbeats 400000 in
theorem uintC (B : Nat) (A : Option Addr) (l : List Nat) (c : Nat) (most : Int) (q : Nat) (w : World) (hs : Sees w B A (bts l)) (hb : Byt l) (hm : l.length ≤ maxLen) (h0 : 0 ≤ most)
    (hq : w.cell? ⟨q, 0, none⟩ = some (.int .u64 most)) :
    Calls Tryz.prog 64 #[.slice A l.length c, .pointer (some ⟨q, 0, none⟩)] w fun e w' => e = Trip (uintS most l) ∧ w' = w := by
  have HG := Lib.hid (atMostC B A l c most w hs hb hm h0)
  clear hs
  go_enter Tryz.func64, Tryz.ntmps64
  go_wp2_with fail
  refine HG.out.mono ?_
  rintro e W ⟨rfl, rfl⟩
  unfold Trip
  go_wp2
  go_ret3
  exact ⟨rfl, rfl⟩

theorem uintS_v (most : Int) (l : List Nat) (hb : Byt l) : (uintS most l).2.2 = 0 → (((uintS most l).1 : Nat) : Int) ≤ most := by
  unfold uintS
  split
  · intro h; cases h
  · rename_i h
    intro h2
    have : ¬ most < ((getS l).1 : Int) := fun h3 => h ⟨h2, h3⟩
    omega

set_option maxRecDepth 100000 in
set_option maxHeartbeats 400000 in
theorem countC (B : Nat) (A : Option Addr) (l : List Nat) (c : Nat) (most size : Int) (q q' : Nat) (w : World) (hs : Sees w B A (bts l)) (hb : Byt l) (hm : l.length ≤ maxLen) (hm1 : most ≤ 9223372036854775807) (hs1 : size ≤ 9223372036854775807)
    (hq : w.cell? ⟨q, 0, none⟩ = some (.int .i64 most)) (hq' : w.cell? ⟨q', 0, none⟩ = some (.int .i64 size)) :
    Calls Tryz.prog 88 #[.slice A l.length c, .pointer (some ⟨q, 0, none⟩), .pointer (some ⟨q', 0, none⟩)] w fun e w' => e = Trip (countS most size l) ∧ w' = w := by
  have HU := Lib.hid (show countS most size l = if most < 0 ∨ size < 0 then (0, 0, 32) else
    if (uintS most l).2.2 = 0 ∧ 0 < size ∧ ((l.length : Int) - (uintS most l).2.1) / size < ((uintS most l).1 : Int) then (0, 0, 1) else uintS most l from rfl)
  by_cases m0 : most < 0
  · have HU' := Lib.hid (HU.out.trans (if_pos (.inl m0)))
    clear hs
    go_enter Tryz.func88, Tryz.ntmps88
    go_wp2
    go_ret3
    exact ⟨by rw [HU'.out]; rfl, rfl⟩
  have m0' : 0 ≤ most := by omega
  by_cases s0 : size < 0
  · have HU' := Lib.hid (HU.out.trans (if_pos (.inr s0)))
    clear hs m0
    go_enter Tryz.func88, Tryz.ntmps88
    go_wp2
    go_ret3
    exact ⟨by rw [HU'.out]; rfl, rfl⟩
  have s0' : 0 ≤ size := by omega
  have HU1 := Lib.hid (HU.out.trans (if_neg (by omega)))
  have HG := Lib.hid (atMostC B A l c most w hs hb hm m0')
  have hl := uintS_len most l
  have hv := uintS_v most l hb
  unfold maxLen at hm
  clear HU hs m0 s0 hb
  generalize countS most size l = u at HU1
  generalize uintS most l = g at HU1 HG hl hv
  obtain ⟨v, n, e⟩ := g
  simp only at HU1 hl hv
  by_cases he : e = 0
  · subst he
    have hv1 := hv rfl
    clear hv
    by_cases sz : size = 0
    · subst sz
      have HU' := Lib.hid (HU1.out.trans (if_neg fun h => by have := h.2.1; omega))
      go_enter Tryz.func88, Tryz.ntmps88
      go_wp2_with fail
      refine HG.out.mono ?_
      rintro e W ⟨rfl, rfl⟩
      unfold Trip
      go_wp2
      go_ret3
      exact ⟨by rw [HU'.out]; rfl, rfl⟩
    · have sp : 0 < size := by omega
      have q0 : 0 ≤ ((l.length : Int) - (n : Int)) / size := Int.ediv_nonneg (by omega) (by omega)
      have q1 : ((l.length : Int) - (n : Int)) / size ≤ (l.length : Int) - (n : Int) := Int.ediv_le_self _ (by omega)
      have q2 : ((l.length : Int) - (n : Int)) / size ≤ 9223372036854775807 := by omega
      by_cases hc : ((l.length : Int) - (n : Int)) / size < (v : Int)
      · have HU' := Lib.hid (HU1.out.trans (if_pos ⟨rfl, sp, hc⟩))
        clear sz
        go_enter Tryz.func88, Tryz.ntmps88
        go_wp2_with fail
        refine HG.out.mono ?_
        rintro e W ⟨rfl, rfl⟩
        unfold Trip
        go_wp2
        go_ret3
        exact ⟨by rw [HU'.out]; rfl, rfl⟩
      · have HU' := Lib.hid (HU1.out.trans (if_neg fun h => hc h.2.2))
        have hc' : (v : Int) ≤ ((l.length : Int) - (n : Int)) / size := by omega
        clear sz hc
        go_enter Tryz.func88, Tryz.ntmps88
        go_wp2_with fail
        refine HG.out.mono ?_
        rintro e W ⟨rfl, rfl⟩
        unfold Trip
        go_wp2
        go_ret3
        exact ⟨by rw [HU'.out]; rfl, rfl⟩
  · have HU' := Lib.hid (HU1.out.trans (if_neg fun h => he h.1))
    have e0 : ((e : Int) == 0) = false := by simp; omega
    clear hv
    go_enter Tryz.func88, Tryz.ntmps88
    go_wp2_with fail
    refine HG.out.mono ?_
    rintro e W ⟨rfl, rfl⟩
    unfold Trip
    go_wp2
    go_ret3
    exact ⟨by rw [HU'.out]; rfl, rfl⟩

end Go.Proofs.YtkapmfopfddmbaaGreat

/-
  What layer 17 reads and writes, as functions on data.
-/
namespace Go.Proofs.YtkapmfopfddmbaaGreat
open Go.RowKit
set_option linter.unusedVariables false

/-- What is left of an input, and an error. -/
structure Ip where
  rest : List Nat
  err : Int

def numE (bd why : Int) (s : Ip) : Int × Ip :=
  if s.err ≠ 0 then (0, s) else if (getS s.rest).2.2 ≠ 0 then (0, ⟨[], ((getS s.rest).2.2 : Int)⟩) else if bd ≤ ((getS s.rest).1 : Int) then (0, ⟨[], why⟩)
  else (((getS s.rest).1 : Int), ⟨s.rest.drop (getS s.rest).2.1, 0⟩)

def optE (b : Bool) (bd why : Int) (s : Ip) : Int × Ip := if b = true then numE bd why s else (0, s)

def immE (b : Bool) (s : Ip) : Int × Ip :=
  if b = true ∧ s.err = 0 then if (getS s.rest).2.2 ≠ 0 then (0, ⟨[], ((getS s.rest).2.2 : Int)⟩) else (uz ((getS s.rest).1 : Int), ⟨s.rest.drop (getS s.rest).2.1, 0⟩) else (0, s)

def locE (r n : Int) (s : Ip) : Int × Ip :=
  if (numE 4611686018427387904 10 s).2.err = 0 ∧ locS (numE 4611686018427387904 10 s).1 r n = false then (0, ⟨[], 10⟩) else numE 4611686018427387904 10 s

def olocE (b : Bool) (r n : Int) (s : Ip) : Int × Ip := if b = true ∧ s.err = 0 then locE r n s else (0, s)

/-- Both are slots. -/
def twoE (b : Bool) (x y : Int) (s : Ip) : Ip := if b = true ∧ s.err = 0 ∧ x % 2 = 1 ∧ y % 2 = 1 then ⟨[], 10⟩ else s

def firstE (most nt why : Int) (s : Ip) : Int × Ip :=
  if s.err ≠ 0 then (0, s) else match s.rest with
    | [] => (0, ⟨[], 1⟩)
    | c :: r => if (c : Int) < 1 ∨ most < (c : Int) ∨ (c : Int) = nt then (0, ⟨[], why⟩) else ((c : Int), ⟨r, 0⟩)

def dE (op regs : Int) (s : Ip) : Int × Ip := optE (uD op) regs 9 s

def aE (op regs : Int) (s : Ip) : Int × Ip := optE (uA op) regs 9 (dE op regs s).2

def bE (op regs : Int) (s : Ip) : Int × Ip := optE (uB op) regs 9 (aE op regs s).2

def iE (op regs : Int) (s : Ip) : Int × Ip := immE (op == 1) (bE op regs s).2

def xE (op regs n : Int) (s : Ip) : Int × Ip := olocE (op == 18) regs n (iE op regs s).2

def yE (op regs n : Int) (s : Ip) : Int × Ip := olocE (op == 18) regs n (xE op regs n s).2

def zE (op regs n : Int) (s : Ip) : Ip := twoE (op == 18) (xE op regs n s).1 (yE op regs n s).1 (yE op regs n s).2

def Mi0 : Mi := ⟨0, 0, 0, 0, 0, 0, 0⟩

def readE (op regs n : Int) (s : Ip) : Mi × Ip :=
  if (zE op regs n s).err ≠ 0 then (Mi0, zE op regs n s) else (⟨op, (dE op regs s).1, (aE op regs s).1, (bE op regs s).1, (iE op regs s).1, (xE op regs n s).1, (yE op regs n s).1⟩, zE op regs n s)

def machE (regs n : Int) (s : Ip) : Mi × Ip := if (firstE 18 2 8 s).2.err ≠ 0 then (Mi0, (firstE 18 2 8 s).2) else readE (firstE 18 2 8 s).1 regs n (firstE 18 2 8 s).2

def instrE (regs : Int) (s : Ip) : Mi × Ip := if (firstE 17 0 8 s).2.err ≠ 0 then (Mi0, (firstE 17 0 8 s).2) else readE (firstE 17 0 8 s).1 regs 0 (firstE 17 0 8 s).2

def tkE (s : Ip) : Int × Ip := firstE 3 0 16 s

def taE (regs : Int) (s : Ip) : Int × Ip := optE ((tkE s).1 != 1) regs 9 (tkE s).2

def ttE (regs n : Int) (s : Ip) : Int × Ip := optE ((tkE s).1 != 3) n 11 (taE regs s).2

def teE (regs n : Int) (s : Ip) : Int × Ip := optE ((tkE s).1 == 2) n 11 (ttE regs n s).2

def Tm0 : Tm := ⟨0, 0, 0, 0⟩

def termE (regs n : Int) (s : Ip) : Tm × Ip := if (teE regs n s).2.err ≠ 0 then (Tm0, (teE regs n s).2) else (⟨(tkE s).1, (taE regs s).1, (ttE regs n s).1, (teE regs n s).1⟩, (teE regs n s).2)

/-- What is written. -/
def encO (b : Bool) (v : Int) : List Nat := if b = true then putS v.toNat else []

def encM (m : Mi) : List Nat := m.op.toNat :: (encO (uD m.op) m.d ++ (encO (uA m.op) m.a ++ (encO (uB m.op) m.b ++ (encO (m.op == 1) (zz m.imm) ++ (encO (m.op == 18) m.dst ++ encO (m.op == 18) m.src)))))

def encT (t : Tm) : List Nat := t.kind.toNat :: (encO (t.kind != 1) t.a ++ (encO (t.kind != 3) t.to ++ encO (t.kind == 2) t.el))

theorem numE_err {bd why : Int} {s : Ip} (h : s.err ≠ 0) : numE bd why s = (0, s) := by unfold numE; rw [if_pos h]

theorem optE_err {b : Bool} {bd why : Int} {s : Ip} (h : s.err ≠ 0) : optE b bd why s = (0, s) := by
  unfold optE
  split
  · exact numE_err h
  · rfl

theorem immE_err {b : Bool} {s : Ip} (h : s.err ≠ 0) : immE b s = (0, s) := by
  unfold immE
  rw [if_neg fun hh => h hh.2]

theorem olocE_err {b : Bool} {r n : Int} {s : Ip} (h : s.err ≠ 0) : olocE b r n s = (0, s) := by
  unfold olocE
  rw [if_neg fun hh => h hh.2]

theorem twoE_err {b : Bool} {x y : Int} {s : Ip} (h : s.err ≠ 0) : twoE b x y s = s := by
  unfold twoE
  rw [if_neg fun hh => h hh.2.1]

/-- A step has gone well: what it has read, and that nothing was wrong before. -/
theorem numE_ok {bd why : Int} {s : Ip} (hb : Byt s.rest) (hw : why ≠ 0) (h : (numE bd why s).2.err = 0) :
    s.err = 0 ∧ 0 ≤ (numE bd why s).1 ∧ (numE bd why s).1 < bd ∧ (numE bd why s).1 ≤ 18446744073709551615 ∧ s.rest = putS (numE bd why s).1.toNat ++ (numE bd why s).2.rest := by
  unfold numE at *
  by_cases h0 : s.err ≠ 0
  · rw [if_pos h0] at h; exact absurd h h0
  · rw [if_neg h0] at *
    by_cases h1 : (getS s.rest).2.2 ≠ 0
    · rw [if_pos h1] at h
      simp only at h
      omega
    · rw [if_neg h1] at *
      by_cases h2 : bd ≤ ((getS s.rest).1 : Int)
      · rw [if_pos h2] at h; exact absurd h hw
      · rw [if_neg h2] at *
        have hg : getS s.rest = ((getS s.rest).1, (getS s.rest).2.1, 0) := by
          have : (getS s.rest).2.2 = 0 := by omega
          rw [← this]
        obtain ⟨k1, k2, k3⟩ := getS_canon hb hg
        have k4 := getS_lt hb hg
        refine ⟨by omega, by omega, by omega, by dsimp only; omega, ?_⟩
        dsimp only
        rw [Int.toNat_natCast, k3, List.take_append_drop]

theorem optE_ok {b : Bool} {bd why : Int} {s : Ip} (hb : Byt s.rest) (hw : why ≠ 0) (h : (optE b bd why s).2.err = 0) :
    s.err = 0 ∧ fR bd (b, (optE b bd why s).1) = true ∧ fZ (b, (optE b bd why s).1) = true ∧ InU (optE b bd why s).1 ∧ s.rest = encO b (optE b bd why s).1 ++ (optE b bd why s).2.rest := by
  unfold optE encO at *
  cases b
  · simp only [Bool.false_eq_true, if_false] at h ⊢
    exact ⟨h, by simp [fR], by simp [fZ], ⟨by decide, by decide⟩, rfl⟩
  · simp only [if_true] at h ⊢
    obtain ⟨h1, h2, h3, h4, h5⟩ := numE_ok hb hw h
    exact ⟨h1, by simp [fR]; omega, by simp [fZ], ⟨h2, h4⟩, h5⟩

theorem immE_ok {b : Bool} {s : Ip} (hb : Byt s.rest) (h : (immE b s).2.err = 0) :
    s.err = 0 ∧ fZ (b, (immE b s).1) = true ∧ InI (immE b s).1 ∧ s.rest = encO b (zz (immE b s).1) ++ (immE b s).2.rest := by
  unfold immE at *
  by_cases h0 : s.err = 0
  · cases b
    · simp only [Bool.false_eq_true, false_and, if_false] at h ⊢
      exact ⟨h, by simp [fZ], ⟨by decide, by decide⟩, rfl⟩
    · rw [if_pos ⟨rfl, h0⟩] at *
      by_cases h1 : (getS s.rest).2.2 ≠ 0
      · rw [if_pos h1] at h
        simp only at h
        omega
      · rw [if_neg h1] at *
        have hg : getS s.rest = ((getS s.rest).1, (getS s.rest).2.1, 0) := by
          have : (getS s.rest).2.2 = 0 := by omega
          rw [← this]
        obtain ⟨k1, k2, k3⟩ := getS_canon hb hg
        have k4 := getS_lt hb hg
        have hu : InU ((getS s.rest).1 : Int) := ⟨by omega, by omega⟩
        refine ⟨h0, by simp [fZ], uz_in hu, ?_⟩
        dsimp only
        unfold encO
        rw [if_pos rfl, zz_uz hu, Int.toNat_natCast, k3, List.take_append_drop]
  · rw [if_neg fun hh => h0 hh.2] at h
    exact absurd h h0

theorem olocE_ok {b : Bool} {r n : Int} {s : Ip} (hb : Byt s.rest) (h : (olocE b r n s).2.err = 0) :
    s.err = 0 ∧ (b = true → locS (olocE b r n s).1 r n = true) ∧ (b = false → (olocE b r n s).1 = 0) ∧ (0 ≤ (olocE b r n s).1 ∧ (olocE b r n s).1 < 4611686018427387904) ∧ s.rest = encO b (olocE b r n s).1 ++ (olocE b r n s).2.rest := by
  unfold olocE at *
  by_cases h0 : s.err = 0
  · cases b
    · simp only [Bool.false_eq_true, false_and, if_false] at h ⊢
      exact ⟨h, fun h => (by cases h), fun _ => (by trivial), ⟨by decide, by decide⟩, rfl⟩
    · rw [if_pos ⟨rfl, h0⟩] at *
      unfold locE at *
      by_cases h1 : (numE 4611686018427387904 10 s).2.err = 0 ∧ locS (numE 4611686018427387904 10 s).1 r n = false
      · rw [if_pos h1] at h
        simp at h
      · rw [if_neg h1] at *
        obtain ⟨k1, k2, k3, k4, k5⟩ := numE_ok hb (by decide) h
        exact ⟨h0, fun _ => by
          rcases hh : locS (numE 4611686018427387904 10 s).1 r n with _ | _
          · exact absurd ⟨h, hh⟩ h1
          · rfl, fun h => (by cases h), ⟨k2, k3⟩, (by unfold encO; rw [if_pos rfl]; exact k5)⟩
  · rw [if_neg fun hh => h0 hh.2] at h
    exact absurd h h0

theorem twoE_ok {b : Bool} {x y : Int} {s : Ip} (h : (twoE b x y s).err = 0) : s.err = 0 ∧ (b = true → ¬ (x % 2 = 1 ∧ y % 2 = 1)) ∧ twoE b x y s = s := by
  unfold twoE at *
  by_cases h0 : b = true ∧ s.err = 0 ∧ x % 2 = 1 ∧ y % 2 = 1
  · rw [if_pos h0] at h; simp at h
  · rw [if_neg h0] at *
    exact ⟨h, fun hb hh => h0 ⟨hb, h, hh⟩, rfl⟩

theorem firstE_ok {most nt why : Int} {s : Ip} (hb : Byt s.rest) (hw : why ≠ 0) (h : (firstE most nt why s).2.err = 0) :
    s.err = 0 ∧ 1 ≤ (firstE most nt why s).1 ∧ (firstE most nt why s).1 ≤ most ∧ (firstE most nt why s).1 ≠ nt ∧ (firstE most nt why s).1 < 256 ∧ s.rest = (firstE most nt why s).1.toNat :: (firstE most nt why s).2.rest := by
  obtain ⟨l, e⟩ := s
  unfold firstE at *
  by_cases h0 : e ≠ 0
  · rw [if_pos h0] at h; exact absurd h h0
  · rw [if_neg h0] at *
    rcases l with _ | ⟨c, r⟩
    · simp at h
    · dsimp only at *
      by_cases h1 : (c : Int) < 1 ∨ most < (c : Int) ∨ (c : Int) = nt
      · rw [if_pos h1] at h; exact absurd h hw
      · rw [if_neg h1] at *
        have := hb c (by simp)
        exact ⟨by omega, by dsimp only; omega, by dsimp only; omega, by dsimp only; omega, by dsimp only; omega, by simp⟩

theorem Byt.tail {l r : List Nat} (h : Byt (l ++ r)) : Byt r := fun x hx => h x (List.mem_append.2 (.inr hx))

/-- What has been read. -/
structure ReadOk (op regs n : Int) (s : Ip) (m : Mi) (t : Ip) : Prop where
  s0 : s.err = 0
  t0 : t.err = 0
  op_ : m.op = op
  r1 : fR regs (uD op, m.d) = true
  r2 : fR regs (uA op, m.a) = true
  r3 : fR regs (uB op, m.b) = true
  z1 : fZ (uD op, m.d) = true
  z2 : fZ (uA op, m.a) = true
  z3 : fZ (uB op, m.b) = true
  z4 : fZ (op == 1, m.imm) = true
  i4 : InI m.imm
  l1 : ((op == 18) = true → locS m.dst regs n = true) ∧ ((op == 18) = false → m.dst = 0)
  l2 : ((op == 18) = true → locS m.src regs n = true) ∧ ((op == 18) = false → m.src = 0)
  l3 : (op == 18) = true → ¬ (m.dst % 2 = 1 ∧ m.src % 2 = 1)
  bytes : s.rest = (encO (uD op) m.d ++ (encO (uA op) m.a ++ (encO (uB op) m.b ++ (encO (op == 1) (zz m.imm) ++ (encO (op == 18) m.dst ++ encO (op == 18) m.src))))) ++ t.rest

theorem readE_ok {op regs n : Int} {s : Ip} (hb : Byt s.rest) (h : (readE op regs n s).2.err = 0) : ReadOk op regs n s (readE op regs n s).1 (readE op regs n s).2 := by
  have hz : (zE op regs n s).err = 0 := by
    unfold readE at h
    by_cases h0 : (zE op regs n s).err ≠ 0
    · rw [if_pos h0] at h; exact h
    · omega
  have he : readE op regs n s = (⟨op, (dE op regs s).1, (aE op regs s).1, (bE op regs s).1, (iE op regs s).1, (xE op regs n s).1, (yE op regs n s).1⟩, zE op regs n s) := by
    unfold readE
    rw [if_neg (by omega)]
  rw [he]
  obtain ⟨y0, z0, e6⟩ := twoE_ok hz
  have hye : (yE op regs n s).2.err = 0 := y0
  -- the errors, backwards
  have hx0 : (xE op regs n s).2.err = 0 := by
    by_cases h9 : (xE op regs n s).2.err = 0
    · exact h9
    · unfold yE at hye; rw [olocE_err h9] at hye; exact hye
  have hi0 : (iE op regs s).2.err = 0 := by
    by_cases h9 : (iE op regs s).2.err = 0
    · exact h9
    · unfold xE at hx0; rw [olocE_err h9] at hx0; exact hx0
  have hb0 : (bE op regs s).2.err = 0 := by
    by_cases h9 : (bE op regs s).2.err = 0
    · exact h9
    · unfold iE at hi0; rw [immE_err h9] at hi0; exact hi0
  have ha0 : (aE op regs s).2.err = 0 := by
    by_cases h9 : (aE op regs s).2.err = 0
    · exact h9
    · unfold bE at hb0; rw [optE_err h9] at hb0; exact hb0
  have hd0 : (dE op regs s).2.err = 0 := by
    by_cases h9 : (dE op regs s).2.err = 0
    · exact h9
    · unfold aE at ha0; rw [optE_err h9] at ha0; exact ha0
  obtain ⟨k0, r1, z1, _, e1⟩ := optE_ok (b := uD op) hb (by decide) hd0
  have f1 : s.rest = encO (uD op) (dE op regs s).1 ++ (dE op regs s).2.rest := e1
  have b1 : Byt (dE op regs s).2.rest := Byt.tail (l := encO (uD op) (dE op regs s).1) (by rw [← f1]; exact hb)
  obtain ⟨_, r2, z2, _, e2⟩ := optE_ok (b := uA op) b1 (by decide) ha0
  have f2 : (dE op regs s).2.rest = encO (uA op) (aE op regs s).1 ++ (aE op regs s).2.rest := e2
  have b2 : Byt (aE op regs s).2.rest := Byt.tail (l := encO (uA op) (aE op regs s).1) (by rw [← f2]; exact b1)
  obtain ⟨_, r3, z3, _, e3⟩ := optE_ok (b := uB op) b2 (by decide) hb0
  have f3 : (aE op regs s).2.rest = encO (uB op) (bE op regs s).1 ++ (bE op regs s).2.rest := e3
  have b3 : Byt (bE op regs s).2.rest := Byt.tail (l := encO (uB op) (bE op regs s).1) (by rw [← f3]; exact b2)
  obtain ⟨_, z4, i4, e4⟩ := immE_ok (b := op == 1) b3 hi0
  have f4 : (bE op regs s).2.rest = encO (op == 1) (zz (iE op regs s).1) ++ (iE op regs s).2.rest := e4
  have b4 : Byt (iE op regs s).2.rest := Byt.tail (l := encO (op == 1) (zz (iE op regs s).1)) (by rw [← f4]; exact b3)
  obtain ⟨_, l1, l1', _, e5⟩ := olocE_ok (b := op == 18) (r := regs) (n := n) b4 hx0
  have f5 : (iE op regs s).2.rest = encO (op == 18) (xE op regs n s).1 ++ (xE op regs n s).2.rest := e5
  have b5 : Byt (xE op regs n s).2.rest := Byt.tail (l := encO (op == 18) (xE op regs n s).1) (by rw [← f5]; exact b4)
  obtain ⟨_, l2, l2', _, e7⟩ := olocE_ok (b := op == 18) (r := regs) (n := n) b5 hye
  have f7 : (xE op regs n s).2.rest = encO (op == 18) (yE op regs n s).1 ++ (yE op regs n s).2.rest := e7
  refine ⟨k0, hz, rfl, r1, r2, r3, z1, z2, z3, z4, i4, ⟨l1, l1'⟩, ⟨l2, l2'⟩, z0, ?_⟩
  have e6' : (zE op regs n s).rest = (yE op regs n s).2.rest := congrArg Ip.rest e6
  show s.rest = (encO (uD op) (dE op regs s).1 ++ (encO (uA op) (aE op regs s).1 ++ (encO (uB op) (bE op regs s).1 ++ (encO (op == 1) (zz (iE op regs s).1) ++ (encO (op == 18) (xE op regs n s).1 ++ encO (op == 18) (yE op regs n s).1))))) ++ (zE op regs n s).rest
  rw [e6']
  simp only [List.append_assoc]
  rw [f1, f2, f3, f4, f5, f7]

end Go.Proofs.YtkapmfopfddmbaaGreat

/-
  Decoding by the reference: the reference's Get returns what getS computes, and leaves memory as it was.
-/
namespace Go.Proofs.YtkapmfopfddmbaaGreat
open Go.RowKit

end Go.Proofs.YtkapmfopfddmbaaGreat

/-
  The program's functions on opcodes: isOpcode, Of, Operands, Source, Machine, Name; and the reference's uses.
-/
namespace Go.Proofs.YtkapmfopfddmbaaGreat
open Go.RowKit

theorem ways (op : Int) : op < 1 ∨ 18 < op ∨ ∃ k : Nat, 1 ≤ k ∧ k ≤ 18 ∧ op = k := by
  rcases (by omega : op < 1 ∨ 18 < op ∨ (1 ≤ op ∧ op ≤ 18)) with h | h | h
  · exact .inl h
  · exact .inr (.inl h)
  · exact .inr (.inr ⟨op.toNat, by omega, by omega, by omega⟩)

set_option maxRecDepth 100000 in
theorem isop_any (op : Int) (b : Bool) (w : World) (hb : uO op = b) :
    Calls Tryz.prog 95 #[.int .i64 op] w fun e w' => e = .returned (.bool b) ∧ w = w' := by
  subst hb
  by_cases h : 1 ≤ op
  · by_cases h2 : op ≤ 18
    · rw [uO, decide_eq_true ⟨h, h2⟩]
      go_enter Tryz.func95, Tryz.ntmps95
      go_wp2
      go_ret
      exact ⟨rfl, rfl⟩
    · rw [uO, decide_eq_false (fun e => h2 e.2)]
      go_enter Tryz.func95, Tryz.ntmps95
      go_wp2
      go_ret
      exact ⟨rfl, rfl⟩
  · rw [uO, decide_eq_false (fun e => h e.1)]
    go_enter Tryz.func95, Tryz.ntmps95
    go_wp2
    go_ret
    exact ⟨rfl, rfl⟩

set_option maxRecDepth 100000 in
theorem rusesD_any (op : Int) (b : Bool) (w : World) (hb : uD op = b) :
    Calls Tryz.prog 60 #[.int .i64 op] w fun e w' => e = .returned (.bool b) ∧ w = w' := by
  subst hb
  by_cases h : 1 ≤ op
  · by_cases h2 : op ≤ 16
    · rw [uD, decide_eq_true ⟨h, h2⟩]
      go_enter Tryz.func60, Tryz.ntmps60
      go_wp2
      go_ret
      exact ⟨rfl, rfl⟩
    · rw [uD, decide_eq_false (fun e => h2 e.2)]
      go_enter Tryz.func60, Tryz.ntmps60
      go_wp2
      go_ret
      exact ⟨rfl, rfl⟩
  · rw [uD, decide_eq_false (fun e => h e.1)]
    go_enter Tryz.func60, Tryz.ntmps60
    go_wp2
    go_ret
    exact ⟨rfl, rfl⟩

set_option maxRecDepth 100000 in
theorem rusesA_any (op : Int) (b : Bool) (w : World) (hb : uA op = b) :
    Calls Tryz.prog 61 #[.int .i64 op] w fun e w' => e = .returned (.bool b) ∧ w = w' := by
  subst hb
  by_cases h : 2 ≤ op
  · by_cases h2 : op ≤ 17
    · rw [uA, decide_eq_true ⟨h, h2⟩]
      go_enter Tryz.func61, Tryz.ntmps61
      go_wp2
      go_ret
      exact ⟨rfl, rfl⟩
    · rw [uA, decide_eq_false (fun e => h2 e.2)]
      go_enter Tryz.func61, Tryz.ntmps61
      go_wp2
      go_ret
      exact ⟨rfl, rfl⟩
  · rw [uA, decide_eq_false (fun e => h e.1)]
    go_enter Tryz.func61, Tryz.ntmps61
    go_wp2
    go_ret
    exact ⟨rfl, rfl⟩

set_option maxRecDepth 100000 in
theorem rusesB_any (op : Int) (b : Bool) (w : World) (hb : uB op = b) :
    Calls Tryz.prog 62 #[.int .i64 op] w fun e w' => e = .returned (.bool b) ∧ w = w' := by
  subst hb
  by_cases h : 5 ≤ op
  · by_cases h2 : op ≤ 16
    · rw [uB, decide_eq_true ⟨h, h2⟩]
      go_enter Tryz.func62, Tryz.ntmps62
      go_wp2
      go_ret
      exact ⟨rfl, rfl⟩
    · rw [uB, decide_eq_false (fun e => h2 e.2)]
      go_enter Tryz.func62, Tryz.ntmps62
      go_wp2
      go_ret
      exact ⟨rfl, rfl⟩
  · rw [uB, decide_eq_false (fun e => h e.1)]
    go_enter Tryz.func62, Tryz.ntmps62
    go_wp2
    go_ret
    exact ⟨rfl, rfl⟩

set_option maxRecDepth 100000 in
theorem source_any (op : Int) (b : Bool) (w : World) (hb : (uO op && !(op == 18)) = b) :
    Calls Tryz.prog 81 #[.int .i64 op] w fun e w' => e = .returned (.bool b) ∧ w = w' := by
  subst hb
  cases h : uO op
  · have H := Lib.hid h
    clear h
    go_enter Tryz.func81, Tryz.ntmps81
    go_wp2_with (go_at_call 95; refine (isop_any op _ _ H.out).mono ?_; rintro e w' ⟨rfl, rfl⟩)
    go_ret
    exact ⟨rfl, rfl⟩
  · have H := Lib.hid h
    clear h
    go_enter Tryz.func81, Tryz.ntmps81
    go_wp2_with (go_at_call 95; refine (isop_any op _ _ H.out).mono ?_; rintro e w' ⟨rfl, rfl⟩)
    go_ret
    exact ⟨rfl, rfl⟩

set_option maxRecDepth 100000 in
theorem machine_any (op : Int) (b : Bool) (w : World) (hb : (uO op && !(op == 2)) = b) :
    Calls Tryz.prog 84 #[.int .i64 op] w fun e w' => e = .returned (.bool b) ∧ w = w' := by
  subst hb
  cases h : uO op
  · have H := Lib.hid h
    clear h
    go_enter Tryz.func84, Tryz.ntmps84
    go_wp2_with (go_at_call 95; refine (isop_any op _ _ H.out).mono ?_; rintro e w' ⟨rfl, rfl⟩)
    go_ret
    exact ⟨rfl, rfl⟩
  · have H := Lib.hid h
    clear h
    go_enter Tryz.func84, Tryz.ntmps84
    go_wp2_with (go_at_call 95; refine (isop_any op _ _ H.out).mono ?_; rintro e w' ⟨rfl, rfl⟩)
    go_ret
    exact ⟨rfl, rfl⟩

end Go.Proofs.YtkapmfopfddmbaaGreat

/-
  The program's Of and Operands.
-/
namespace Go.Proofs.YtkapmfopfddmbaaGreat
open Go.RowKit

theorem ways18 (op : Int) : uO op = false ∨ op = 1 ∨ op = 2 ∨ op = 3 ∨ op = 4 ∨ op = 5 ∨ op = 6 ∨ op = 7 ∨ op = 8 ∨ op = 9 ∨ op = 10 ∨ op = 11 ∨ op = 12 ∨ op = 13 ∨ op = 14 ∨ op = 15 ∨ op = 16 ∨ op = 17 ∨ op = 18 := by
  by_cases h : 1 ≤ op ∧ op ≤ 18
  · right; omega
  · left; exact decide_eq_false h

theorem out_of {op : Int} (h : uO op = false) : ¬ (1 ≤ op ∧ op ≤ 18) := of_decide_eq_false h

theorem out_D {op : Int} (h : uO op = false) : uD op = false := decide_eq_false (by have := out_of h; omega)

theorem out_A {op : Int} (h : uO op = false) : uA op = false := decide_eq_false (by have := out_of h; omega)

theorem out_B {op : Int} (h : uO op = false) : uB op = false := decide_eq_false (by have := out_of h; omega)

theorem out_I {op : Int} (h : uO op = false) : uI op = false := decide_eq_false (by have := out_of h; omega)

theorem out_ne {op : Int} (h : uO op = false) (k : Int) (h1 : 1 ≤ k ∧ k ≤ 18) : (op == k) = false := beq_eq_false_iff_ne.2 fun e => out_of h (e ▸ h1)

/-- What Of answers. -/
def shp (op : Int) : Value := .agg #[.bool (uD op), .bool (uA op), .bool (uB op), .bool (uI op)]

set_option maxRecDepth 100000 in
set_option maxHeartbeats 1000000 in
theorem of_any (op : Int) (w : World) :
    Calls Tryz.prog 96 #[.int .i64 op] w fun e w' => e = .returned (.tuple #[shp op, .bool (uO op)]) ∧ Below w.heap.size w w' := by
  rcases ways18 op with h | h | h | h | h | h | h | h | h | h | h | h | h | h | h | h | h | h | h
  · rw [shp, out_D h, out_A h, out_B h, out_I h, h]
    have h1 := out_ne h 1 (by omega); have h2 := out_ne h 2 (by omega); have h3 := out_ne h 3 (by omega); have h4 := out_ne h 4 (by omega); have h5 := out_ne h 5 (by omega); have h6 := out_ne h 6 (by omega)
    have h7 := out_ne h 7 (by omega); have h8 := out_ne h 8 (by omega); have h9 := out_ne h 9 (by omega); have h10 := out_ne h 10 (by omega); have h11 := out_ne h 11 (by omega); have h12 := out_ne h 12 (by omega)
    have h13 := out_ne h 13 (by omega); have h14 := out_ne h 14 (by omega); have h15 := out_ne h 15 (by omega); have h16 := out_ne h 16 (by omega); have h17 := out_ne h 17 (by omega); have h18 := out_ne h 18 (by omega)
    clear h
    go_enter Tryz.func96, Tryz.ntmps96
    go_wp2
    (try simp only [Exit.inBlock, Exit.then])
    refine bodyPost_ret (v := .tuple #[.agg #[.bool false, .bool false, .bool false, .bool false], .bool false]) ?_ rfl ⟨rfl, ?_⟩
    · rw [results_cell_tmp rfl]
      go_simp
    · exact (Below.refl _ _).alloc (Nat.le_refl _) _
  · subst h
    rw [show shp 1 = .agg #[.bool true, .bool false, .bool false, .bool true] from rfl, show uO 1 = true from rfl]
    go_enter Tryz.func96, Tryz.ntmps96
    go_wp2
    (try simp only [Exit.inBlock, Exit.then])
    refine bodyPost_ret (v := .tuple #[.agg #[.bool true, .bool false, .bool false, .bool true], .bool true]) ?_ rfl ⟨rfl, ?_⟩
    · rw [results_cell_tmp rfl]
      go_simp
    · exact (Below.refl _ _).alloc (Nat.le_refl _) _
  · subst h
    rw [show shp 2 = .agg #[.bool true, .bool true, .bool false, .bool false] from rfl, show uO 2 = true from rfl]
    go_enter Tryz.func96, Tryz.ntmps96
    go_wp2
    (try simp only [Exit.inBlock, Exit.then])
    refine bodyPost_ret (v := .tuple #[.agg #[.bool true, .bool true, .bool false, .bool false], .bool true]) ?_ rfl ⟨rfl, ?_⟩
    · rw [results_cell_tmp rfl]
      go_simp
    · exact (Below.refl _ _).alloc (Nat.le_refl _) _
  · subst h
    rw [show shp 3 = .agg #[.bool true, .bool true, .bool false, .bool false] from rfl, show uO 3 = true from rfl]
    go_enter Tryz.func96, Tryz.ntmps96
    go_wp2
    (try simp only [Exit.inBlock, Exit.then])
    refine bodyPost_ret (v := .tuple #[.agg #[.bool true, .bool true, .bool false, .bool false], .bool true]) ?_ rfl ⟨rfl, ?_⟩
    · rw [results_cell_tmp rfl]
      go_simp
    · exact (Below.refl _ _).alloc (Nat.le_refl _) _
  · subst h
    rw [show shp 4 = .agg #[.bool true, .bool true, .bool false, .bool false] from rfl, show uO 4 = true from rfl]
    go_enter Tryz.func96, Tryz.ntmps96
    go_wp2
    (try simp only [Exit.inBlock, Exit.then])
    refine bodyPost_ret (v := .tuple #[.agg #[.bool true, .bool true, .bool false, .bool false], .bool true]) ?_ rfl ⟨rfl, ?_⟩
    · rw [results_cell_tmp rfl]
      go_simp
    · exact (Below.refl _ _).alloc (Nat.le_refl _) _
  · subst h
    rw [show shp 5 = .agg #[.bool true, .bool true, .bool true, .bool false] from rfl, show uO 5 = true from rfl]
    go_enter Tryz.func96, Tryz.ntmps96
    go_wp2
    (try simp only [Exit.inBlock, Exit.then])
    refine bodyPost_ret (v := .tuple #[.agg #[.bool true, .bool true, .bool true, .bool false], .bool true]) ?_ rfl ⟨rfl, ?_⟩
    · rw [results_cell_tmp rfl]
      go_simp
    · exact (Below.refl _ _).alloc (Nat.le_refl _) _
  · subst h
    rw [show shp 6 = .agg #[.bool true, .bool true, .bool true, .bool false] from rfl, show uO 6 = true from rfl]
    go_enter Tryz.func96, Tryz.ntmps96
    go_wp2
    (try simp only [Exit.inBlock, Exit.then])
    refine bodyPost_ret (v := .tuple #[.agg #[.bool true, .bool true, .bool true, .bool false], .bool true]) ?_ rfl ⟨rfl, ?_⟩
    · rw [results_cell_tmp rfl]
      go_simp
    · exact (Below.refl _ _).alloc (Nat.le_refl _) _
  · subst h
    rw [show shp 7 = .agg #[.bool true, .bool true, .bool true, .bool false] from rfl, show uO 7 = true from rfl]
    go_enter Tryz.func96, Tryz.ntmps96
    go_wp2
    (try simp only [Exit.inBlock, Exit.then])
    refine bodyPost_ret (v := .tuple #[.agg #[.bool true, .bool true, .bool true, .bool false], .bool true]) ?_ rfl ⟨rfl, ?_⟩
    · rw [results_cell_tmp rfl]
      go_simp
    · exact (Below.refl _ _).alloc (Nat.le_refl _) _
  · subst h
    rw [show shp 8 = .agg #[.bool true, .bool true, .bool true, .bool false] from rfl, show uO 8 = true from rfl]
    go_enter Tryz.func96, Tryz.ntmps96
    go_wp2
    (try simp only [Exit.inBlock, Exit.then])
    refine bodyPost_ret (v := .tuple #[.agg #[.bool true, .bool true, .bool true, .bool false], .bool true]) ?_ rfl ⟨rfl, ?_⟩
    · rw [results_cell_tmp rfl]
      go_simp
    · exact (Below.refl _ _).alloc (Nat.le_refl _) _
  · subst h
    rw [show shp 9 = .agg #[.bool true, .bool true, .bool true, .bool false] from rfl, show uO 9 = true from rfl]
    go_enter Tryz.func96, Tryz.ntmps96
    go_wp2
    (try simp only [Exit.inBlock, Exit.then])
    refine bodyPost_ret (v := .tuple #[.agg #[.bool true, .bool true, .bool true, .bool false], .bool true]) ?_ rfl ⟨rfl, ?_⟩
    · rw [results_cell_tmp rfl]
      go_simp
    · exact (Below.refl _ _).alloc (Nat.le_refl _) _
  · subst h
    rw [show shp 10 = .agg #[.bool true, .bool true, .bool true, .bool false] from rfl, show uO 10 = true from rfl]
    go_enter Tryz.func96, Tryz.ntmps96
    go_wp2
    (try simp only [Exit.inBlock, Exit.then])
    refine bodyPost_ret (v := .tuple #[.agg #[.bool true, .bool true, .bool true, .bool false], .bool true]) ?_ rfl ⟨rfl, ?_⟩
    · rw [results_cell_tmp rfl]
      go_simp
    · exact (Below.refl _ _).alloc (Nat.le_refl _) _
  · subst h
    rw [show shp 11 = .agg #[.bool true, .bool true, .bool true, .bool false] from rfl, show uO 11 = true from rfl]
    go_enter Tryz.func96, Tryz.ntmps96
    go_wp2
    (try simp only [Exit.inBlock, Exit.then])
    refine bodyPost_ret (v := .tuple #[.agg #[.bool true, .bool true, .bool true, .bool false], .bool true]) ?_ rfl ⟨rfl, ?_⟩
    · rw [results_cell_tmp rfl]
      go_simp
    · exact (Below.refl _ _).alloc (Nat.le_refl _) _
  · subst h
    rw [show shp 12 = .agg #[.bool true, .bool true, .bool true, .bool false] from rfl, show uO 12 = true from rfl]
    go_enter Tryz.func96, Tryz.ntmps96
    go_wp2
    (try simp only [Exit.inBlock, Exit.then])
    refine bodyPost_ret (v := .tuple #[.agg #[.bool true, .bool true, .bool true, .bool false], .bool true]) ?_ rfl ⟨rfl, ?_⟩
    · rw [results_cell_tmp rfl]
      go_simp
    · exact (Below.refl _ _).alloc (Nat.le_refl _) _
  · subst h
    rw [show shp 13 = .agg #[.bool true, .bool true, .bool true, .bool false] from rfl, show uO 13 = true from rfl]
    go_enter Tryz.func96, Tryz.ntmps96
    go_wp2
    (try simp only [Exit.inBlock, Exit.then])
    refine bodyPost_ret (v := .tuple #[.agg #[.bool true, .bool true, .bool true, .bool false], .bool true]) ?_ rfl ⟨rfl, ?_⟩
    · rw [results_cell_tmp rfl]
      go_simp
    · exact (Below.refl _ _).alloc (Nat.le_refl _) _
  · subst h
    rw [show shp 14 = .agg #[.bool true, .bool true, .bool true, .bool false] from rfl, show uO 14 = true from rfl]
    go_enter Tryz.func96, Tryz.ntmps96
    go_wp2
    (try simp only [Exit.inBlock, Exit.then])
    refine bodyPost_ret (v := .tuple #[.agg #[.bool true, .bool true, .bool true, .bool false], .bool true]) ?_ rfl ⟨rfl, ?_⟩
    · rw [results_cell_tmp rfl]
      go_simp
    · exact (Below.refl _ _).alloc (Nat.le_refl _) _
  · subst h
    rw [show shp 15 = .agg #[.bool true, .bool true, .bool true, .bool false] from rfl, show uO 15 = true from rfl]
    go_enter Tryz.func96, Tryz.ntmps96
    go_wp2
    (try simp only [Exit.inBlock, Exit.then])
    refine bodyPost_ret (v := .tuple #[.agg #[.bool true, .bool true, .bool true, .bool false], .bool true]) ?_ rfl ⟨rfl, ?_⟩
    · rw [results_cell_tmp rfl]
      go_simp
    · exact (Below.refl _ _).alloc (Nat.le_refl _) _
  · subst h
    rw [show shp 16 = .agg #[.bool true, .bool true, .bool true, .bool false] from rfl, show uO 16 = true from rfl]
    go_enter Tryz.func96, Tryz.ntmps96
    go_wp2
    (try simp only [Exit.inBlock, Exit.then])
    refine bodyPost_ret (v := .tuple #[.agg #[.bool true, .bool true, .bool true, .bool false], .bool true]) ?_ rfl ⟨rfl, ?_⟩
    · rw [results_cell_tmp rfl]
      go_simp
    · exact (Below.refl _ _).alloc (Nat.le_refl _) _
  · subst h
    rw [show shp 17 = .agg #[.bool false, .bool true, .bool false, .bool false] from rfl, show uO 17 = true from rfl]
    go_enter Tryz.func96, Tryz.ntmps96
    go_wp2
    (try simp only [Exit.inBlock, Exit.then])
    refine bodyPost_ret (v := .tuple #[.agg #[.bool false, .bool true, .bool false, .bool false], .bool true]) ?_ rfl ⟨rfl, ?_⟩
    · rw [results_cell_tmp rfl]
      go_simp
    · exact (Below.refl _ _).alloc (Nat.le_refl _) _
  · subst h
    rw [show shp 18 = .agg #[.bool false, .bool false, .bool false, .bool false] from rfl, show uO 18 = true from rfl]
    go_enter Tryz.func96, Tryz.ntmps96
    go_wp2
    (try simp only [Exit.inBlock, Exit.then])
    refine bodyPost_ret (v := .tuple #[.agg #[.bool false, .bool false, .bool false, .bool false], .bool true]) ?_ rfl ⟨rfl, ?_⟩
    · rw [results_cell_tmp rfl]
      go_simp
    · exact (Below.refl _ _).alloc (Nat.le_refl _) _

theorem shp_eq (op : Int) {d a b i : Bool} (h1 : uD op = d) (h2 : uA op = a) (h3 : uB op = b) (h4 : uI op = i) : shp op = .agg #[.bool d, .bool a, .bool b, .bool i] := by subst h1; subst h2; subst h3; subst h4; rfl

theorem of_at (op : Int) (d a b i o : Bool) (w : World) (h1 : uD op = d) (h2 : uA op = a) (h3 : uB op = b) (h4 : uI op = i) (h5 : uO op = o) :
    Calls Tryz.prog 96 #[.int .i64 op] w fun e w' => e = .returned (.tuple #[.agg #[.bool d, .bool a, .bool b, .bool i], .bool o]) ∧ Below w.heap.size w w' := by
  subst h5
  rw [← shp_eq op h1 h2 h3 h4]
  exact of_any op w

end Go.Proofs.YtkapmfopfddmbaaGreat

/-
  Taking an operation of a region first.
-/
namespace Go.Proofs.YtkapmfopfddmbaaGreat
open Go.RowKit

/-- Taking an operation first, its slot written out. -/
theorem take_at {P : Program} {md : Region.Mode} {ops : Array Oper} {Q : Exit → Act → World → Prop} {S : World → Prop} (i d : Nat) {oi : Oper} (v : Value) {fuel : Nat} {listed : Array Bool} {a : Act} {w : World} (hi : ops[i]? = some oi) (hd : oi.dst = some d)
    (hs : Region.noSelect ops = true) (hf : Region.free md ops listed i = true) (hr : (Region.ready md ops listed).contains i = true)
    (hQ : ∀ c a w, Q (.panic c) (a.put oi.dst v) w → Q (.panic c) a w) (hy : YieldsIf P ops S oi v a) (hS : S w)
    (h : wpAnyH P md ops Q S fuel (listed.setIfInBounds i true) (a.put (some d) v) w) : wpAnyH P md ops Q S (fuel + 1) listed a w :=
  wpAnyH_take hi hs hf hr hQ hy hS (by rw [hd]; exact h)

end Go.Proofs.YtkapmfopfddmbaaGreat
