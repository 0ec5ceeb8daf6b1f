/-
  Decimal numerals and texts of locations as lists of bytes: which numbers they are (no program in this text).
-/
import Derived.Lib.ItoaNum
namespace Go.Proofs.YtkaildgbjokmnaaDoor
open Go.Lib (decDigits)

def dv (l : List UInt8) : Nat := l.foldl (fun n c => 10 * n + (c.toNat - 48)) 0
def Dig (l : List UInt8) : Prop := ∀ c ∈ l, 48 ≤ c.toNat ∧ c.toNat ≤ 57
def Lead (l : List UInt8) : Prop := 1 < l.length → l.head? ≠ some 48
/-- The text of a number below 2^40. -/
def Num (l : List UInt8) : Prop := l ≠ [] ∧ Dig l ∧ Lead l ∧ dv l < 1099511627776

open Classical in
noncomputable def nk (l : List UInt8) : Bool := decide (Num l)
open Classical in
noncomputable def nv (l : List UInt8) : Nat := if Num l then dv l else 0

theorem nk_yes {l : List UInt8} (h : Num l) : nk l = true := by simp [nk, h]
theorem nk_no {l : List UInt8} (h : ¬ Num l) : nk l = false := by simp [nk, h]
theorem nv_yes {l : List UInt8} (h : Num l) : nv l = dv l := by simp [nv, h]
theorem nv_no {l : List UInt8} (h : ¬ Num l) : nv l = 0 := by simp [nv, h]
theorem nk_iff {l : List UInt8} : nk l = true ↔ Num l := by simp [nk]
theorem nv_lt (l : List UInt8) : nv l < 1099511627776 := by
  by_cases h : Num l
  · rw [nv_yes h]; exact h.2.2.2
  · rw [nv_no h]; decide

theorem dv_nil : dv [] = 0 := rfl
theorem dv_snoc (r : List UInt8) (c : UInt8) : dv (r ++ [c]) = 10 * dv r + (c.toNat - 48) := by simp [dv, List.foldl_append]
theorem snoc_ind {p : List UInt8 → Prop} (h0 : p []) (h1 : ∀ r c, p r → p (r ++ [c])) (l : List UInt8) : p l := by
  have : ∀ n (l : List UInt8), l.length = n → p l := by
    intro n
    induction n with
    | zero => intro l hl; rw [List.eq_nil_of_length_eq_zero hl]; exact h0
    | succ n ih =>
      intro l hl
      have hne : l ≠ [] := by intro e; subst e; simp at hl
      rw [← List.dropLast_concat_getLast hne]
      exact h1 _ _ (ih _ (by simp [hl]))
  exact this _ l rfl
theorem Dig.left {r s : List UInt8} (h : Dig (r ++ s)) : Dig r := fun c hc => h c (List.mem_append_left _ hc)
theorem Dig.last {r : List UInt8} {c : UInt8} (h : Dig (r ++ [c])) : 48 ≤ c.toNat ∧ c.toNat ≤ 57 := h c (by simp)
theorem Dig.take {l : List UInt8} (h : Dig l) (k : Nat) : Dig (l.take k) := fun c hc => h c (List.mem_of_mem_take hc)

theorem dv_lt (l : List UInt8) : Dig l → dv l < 10 ^ l.length := by
  refine snoc_ind (p := fun l => Dig l → dv l < 10 ^ l.length) (by simp [dv]) ?_ l
  intro r c ih h
  have h1 := ih h.left
  have h2 := h.last
  rw [dv_snoc, List.length_append, List.length_singleton, Nat.pow_succ]
  omega
theorem fold_ge (l : List UInt8) : ∀ n, n ≤ l.foldl (fun n c => 10 * n + (c.toNat - 48)) n := by
  induction l with
  | nil => intro n; exact Nat.le_refl _
  | cons c l ih => intro n; refine Nat.le_trans ?_ (ih (10 * n + (c.toNat - 48))); omega
theorem dv_take_le (l : List UInt8) (k : Nat) : dv (l.take k) ≤ dv l := by
  have e : dv l = (l.drop k).foldl (fun n c => 10 * n + (c.toNat - 48)) (dv (l.take k)) := by
    unfold dv
    rw [← List.foldl_append, List.take_append_drop]
  rw [e]
  exact fold_ge _ _
theorem head_left {r : List UInt8} {c : UInt8} (h : r ≠ []) : (r ++ [c]).head? = r.head? := by
  cases r with
  | nil => exact absurd rfl h
  | cons x r => rfl
theorem dv_ge (l : List UInt8) : l ≠ [] → Dig l → l.head? ≠ some 48 → 10 ^ (l.length - 1) ≤ dv l := by
  refine snoc_ind (p := fun l => l ≠ [] → Dig l → l.head? ≠ some 48 → 10 ^ (l.length - 1) ≤ dv l) (fun h => absurd rfl h) ?_ l
  intro r c ih _ h hh
  have h2 := h.last
  rw [dv_snoc]
  by_cases hr : r = []
  · subst hr
    have : c ≠ 48 := fun e => hh (by subst e; rfl)
    have hne : c.toNat ≠ 48 := fun e => this (UInt8.toNat_inj.1 (by rw [e]; rfl))
    simp [dv]
    omega
  · have h3 := ih hr h.left (by rw [← head_left hr]; exact hh)
    have hl : 1 ≤ r.length := by cases r with | nil => exact absurd rfl hr | cons _ _ => simp
    rw [List.length_append, List.length_singleton, show r.length + 1 - 1 = (r.length - 1) + 1 by omega, Nat.pow_succ]
    omega
theorem dv_pos {l : List UInt8} (h : l ≠ []) (hd : Dig l) (hh : l.head? ≠ some 48) : 1 ≤ dv l :=
  Nat.le_trans (Nat.one_le_pow _ _ (by decide)) (dv_ge l h hd hh)
theorem Num.short {l : List UInt8} (h : Num l) : l.length ≤ 13 := by
  obtain ⟨h1, h2, h3, h4⟩ := h
  rcases Nat.lt_or_ge 13 l.length with h5 | h5
  · have h6 := dv_ge l h1 h2 (h3 (by omega))
    have h7 := Nat.pow_le_pow_right (n := 10) (by decide) (show 13 ≤ l.length - 1 by omega)
    have h8 : (10 : Nat) ^ 13 = 10000000000000 := by decide
    omega
  · exact h5

/-! ### numerals of numbers -/
theorem dec_dv (l : List UInt8) : l ≠ [] → Dig l → Lead l → decDigits (dv l) = l := by
  refine snoc_ind (p := fun l => l ≠ [] → Dig l → Lead l → decDigits (dv l) = l) (fun h => absurd rfl h) ?_ l
  intro r c ih _ h hh
  have h2 := h.last
  have hc : UInt8.ofNat (48 + (c.toNat - 48)) = c := by
    rw [show 48 + (c.toNat - 48) = c.toNat by omega]
    simp
  rw [dv_snoc]
  by_cases hr : r = []
  · subst hr
    rw [dv_nil, decDigits, dif_pos (by omega), Nat.mul_zero, Nat.zero_add, hc]
    rfl
  · have hl : 1 ≤ r.length := by cases r with | nil => exact absurd rfl hr | cons _ _ => simp
    have hhd : r.head? ≠ some 48 := by rw [← head_left hr]; exact hh (by simp; omega)
    have h3 := ih hr h.left (fun _ => hhd)
    have h4 := dv_pos hr h.left hhd
    rw [decDigits, dif_neg (by omega), show (10 * dv r + (c.toNat - 48)) / 10 = dv r by omega, show (10 * dv r + (c.toNat - 48)) % 10 = c.toNat - 48 by omega, h3, hc]
theorem dig_toNat {k : Nat} (h : k < 10) : (UInt8.ofNat (48 + k)).toNat = 48 + k := by
  simp; omega
theorem dec_all (n : Nat) : decDigits n ≠ [] ∧ Dig (decDigits n) ∧ dv (decDigits n) = n ∧ (n ≠ 0 → (decDigits n).head? ≠ some 48) := by
  induction n using Nat.strongRecOn with
  | _ n ih =>
    by_cases h : n < 10
    · rw [decDigits, dif_pos h]
      refine ⟨by simp, fun c hc => ?_, ?_, fun h0 => ?_⟩
      · rw [List.mem_singleton.1 hc, dig_toNat h]; omega
      · have := dig_toNat h
        simp only [dv, List.foldl_cons, List.foldl_nil]
        omega
      · intro e
        have e1 := congrArg UInt8.toNat (Option.some.inj e)
        rw [dig_toNat h] at e1
        have : (48 : UInt8).toNat = 48 := rfl
        omega
    · rw [decDigits, dif_neg h]
      obtain ⟨a, b, c, d⟩ := ih (n / 10) (by omega)
      refine ⟨by simp, fun x hx => ?_, ?_, fun _ => ?_⟩
      · rcases List.mem_append.1 hx with h1 | h1
        · exact b x h1
        · rw [List.mem_singleton.1 h1, dig_toNat (by omega)]; omega
      · rw [dv_snoc, c, dig_toNat (by omega)]; omega
      · rw [head_left a]; exact d (by omega)
theorem dec_len (n : Nat) (h : 1 < (decDigits n).length) : n ≠ 0 := by
  intro e
  subst e
  rw [decDigits, dif_pos (by decide)] at h
  simp at h
theorem dec_num {n : Nat} (h : n < 1099511627776) : Num (decDigits n) := by
  obtain ⟨a, b, c, d⟩ := dec_all n
  exact ⟨a, b, fun h1 => d (dec_len n h1), by omega⟩
theorem num_dec {l : List UInt8} (h : Num l) : decDigits (dv l) = l := dec_dv l h.1 h.2.1 h.2.2.1

/-! ### the text of a location -/
def tx (x : Nat) : List UInt8 := (if x % 2 = 0 then 114 else 115) :: decDigits (x / 2)
open Classical in
/-- What Parse answers: whether the bytes are the text of a location, and which. -/
noncomputable def pk (l : List UInt8) : Bool := decide ((l.head? = some 114 ∨ l.head? = some 115) ∧ Num l.tail)
open Classical in
noncomputable def pv (l : List UInt8) : Nat := if pk l = true then (if l.head? = some 114 then 2 * dv l.tail else 2 * dv l.tail + 1) else 0

theorem pk_iff {l : List UInt8} : pk l = true ↔ (l.head? = some 114 ∨ l.head? = some 115) ∧ Num l.tail := by simp [pk]
theorem pv_no {l : List UInt8} (h : pk l = false) : pv l = 0 := by simp [pv, h]
theorem pk_no {l : List UInt8} (h : ¬ Num l.tail) : pk l = false := by simp [pk, h]
theorem pk_no' {l : List UInt8} (h1 : l.head? ≠ some 114) (h2 : l.head? ≠ some 115) : pk l = false := by simp [pk, h1, h2]
theorem pk_r {r : List UInt8} (h : Num r) : pk (114 :: r) = true := by simp [pk, h]
theorem pk_s {r : List UInt8} (h : Num r) : pk (115 :: r) = true := by simp [pk, h]
theorem pv_r {r : List UInt8} (h : Num r) : pv (114 :: r) = 2 * nv r := by simp [pv, pk_r h, nv_yes h]
theorem pv_s {r : List UInt8} (h : Num r) : pv (115 :: r) = 2 * nv r + 1 := by simp [pv, pk_s h, nv_yes h]
theorem pk_cases {l : List UInt8} (h : pk l = true) : ∃ r, Num r ∧ (l = 114 :: r ∨ l = 115 :: r) := by
  cases l with
  | nil => simp [pk] at h
  | cons c r =>
    have h' : (c = 114 ∨ c = 115) ∧ Num r := by simpa using pk_iff.1 h
    rcases h'.1 with h1 | h1
    · exact ⟨r, h'.2, .inl (by rw [h1])⟩
    · exact ⟨r, h'.2, .inr (by rw [h1])⟩
theorem pv_lt (l : List UInt8) : pv l < 2199023255552 := by
  cases h : pk l with
  | false => rw [pv_no h]; decide
  | true =>
    obtain ⟨r, hr, rfl | rfl⟩ := pk_cases h
    · rw [pv_r hr]; have := nv_lt r; omega
    · rw [pv_s hr]; have := nv_lt r; omega
theorem tx_pv {l : List UInt8} (h : pk l = true) : tx (pv l) = l := by
  obtain ⟨r, hr, rfl | rfl⟩ := pk_cases h
  · rw [pv_r hr, nv_yes hr, tx, if_pos (by omega), show 2 * dv r / 2 = dv r by omega, num_dec hr]
  · rw [pv_s hr, nv_yes hr, tx, if_neg (by omega), show (2 * dv r + 1) / 2 = dv r by omega, num_dec hr]
theorem pk_tx {x : Nat} (h : x < 2199023255552) : pk (tx x) = true ∧ pv (tx x) = x := by
  have hn : Num (decDigits (x / 2)) := dec_num (by omega)
  have hd := (dec_all (x / 2)).2.2.1
  unfold tx
  split
  · exact ⟨pk_r hn, by rw [pv_r hn, nv_yes hn, hd]; omega⟩
  · exact ⟨pk_s hn, by rw [pv_s hn, nv_yes hn, hd]; omega⟩

/-! ### what is no text of a location -/
theorem pk_zero {l : List UInt8} (h : pk l = true) : pk (l.take 1 ++ [48] ++ l.drop 1) = false := by
  obtain ⟨r, hr, rfl | rfl⟩ := pk_cases h
  all_goals
    refine pk_no fun hn => hn.2.2.1 ?_ (by simp)
    have : 1 ≤ r.length := by
      rcases r with _ | ⟨x, r⟩
      · exact absurd rfl hr.1
      · simp
    simp
    omega
theorem pk_behind (l : List UInt8) : pk (l ++ [32]) = false := by
  rcases l with _ | ⟨x, l⟩
  · exact pk_no' (by simp) (by simp)
  · refine pk_no fun hn => ?_
    have := hn.2.1 32 (by simp)
    simp at this
theorem pk_ahead (l : List UInt8) : pk ([32] ++ l) = false := pk_no' (by simp) (by simp)
theorem pk_one (l : List UInt8) : pk (l.take 1) = false := by
  refine pk_no fun hn => hn.1 ?_
  rcases l with _ | ⟨x, l⟩ <;> simp

/-! ### the program's reading of a numeral: digit by digit -/
structure At (l : List UInt8) (k n : Nat) : Prop where
  le : k ≤ l.length
  val : n = dv (l.take k)
  dig : Dig (l.take k)
  lead : 1 < k → l.head? ≠ some 48
  small : n < 1099511627776

theorem At.zero (l : List UInt8) : At l 0 0 := ⟨Nat.zero_le _, rfl, by simp [Dig], fun h => by omega, by decide⟩
theorem take_snoc {l : List UInt8} {k : Nat} (h : k < l.length) : l.take (k + 1) = l.take k ++ [l[k]] := by simp
theorem At.bad {l : List UInt8} {k n : Nat} (_ : At l k n) (h : k < l.length) (hb : ¬ (48 ≤ l[k].toNat ∧ l[k].toNat ≤ 57)) : ¬ Num l :=
  fun hn => hb (hn.2.1 _ (List.getElem_mem h))
theorem head_take {l : List UInt8} {k : Nat} (h : 0 < k) : (l.take k).head? = l.head? := by
  rcases l with _ | ⟨x, l⟩
  · simp
  · rcases k with _ | k
    · omega
    · rfl
theorem At.zeros {l : List UInt8} {k n : Nat} (a : At l k n) (h : k < l.length) (hk : 0 < k) (hn : n = 0) : ¬ Num l := fun hm => by
  have h1 := hm.2.2.1 (by omega)
  have h2 := dv_pos (l := l.take k) (by intro e; have := congrArg List.length e; rw [List.length_take, List.length_nil] at this; omega) a.dig (by rw [head_take hk]; exact h1)
  have := a.val
  omega
theorem At.big {l : List UInt8} {k n : Nat} (a : At l k n) (h : k < l.length) (hb : 1099511627776 ≤ 10 * n + (l[k].toNat - 48)) : ¬ Num l := fun hm => by
  have h1 := dv_take_le l (k + 1)
  rw [take_snoc h, dv_snoc, ← a.val] at h1
  have := hm.2.2.2
  omega
theorem At.first {l : List UInt8} {n : Nat} (a : At l 0 n) : n = 0 := a.val
theorem At.more {l : List UInt8} {k n : Nat} (a : At l k n) (h : k < l.length) (h1 : 48 ≤ l[k].toNat) (h2 : l[k].toNat ≤ 57) (h3 : k = 0 ∨ n ≠ 0)
    (hs : 10 * n + (l[k].toNat - 48) < 1099511627776) : At l (k + 1) (10 * n + (l[k].toNat - 48)) := by
  refine ⟨h, ?_, ?_, ?_, hs⟩
  · rw [take_snoc h, dv_snoc, ← a.val]
  · rw [take_snoc h]
    intro c hc
    rcases List.mem_append.1 hc with h4 | h4
    · exact a.dig c h4
    · rw [List.mem_singleton.1 h4]; exact ⟨h1, h2⟩
  · intro hk
    have hn : n ≠ 0 := by omega
    rcases Nat.lt_or_ge 1 k with h5 | h5
    · exact a.lead h5
    · have hk1 : k = 1 := by omega
      subst hk1
      intro he
      apply hn
      rcases l with _ | ⟨x, l⟩
      · simp at h
      · have hx : x = 48 := by simpa using he
        rw [a.val, hx]
        rfl
theorem At.done {l : List UInt8} {k n : Nat} (a : At l k n) (h : ¬ k < l.length) : n = nv l ∧ (!l.isEmpty) = nk l := by
  have hk : k = l.length := by have := a.le; omega
  subst hk
  have hv := a.val
  have hd := a.dig
  rw [List.take_length] at hv hd
  by_cases hl : l = []
  · subst hl
    have hno : ¬ Num [] := fun h => h.1 rfl
    exact ⟨by rw [nv_no hno, hv]; rfl, by rw [nk_no hno]; rfl⟩
  · have hy : Num l := ⟨hl, hd, a.lead, by rw [← hv]; exact a.small⟩
    refine ⟨by rw [nv_yes hy, hv], ?_⟩
    rw [nk_yes hy]
    simp [hl]

/-! ### the reference's reading -/
structure RAt (l : List UInt8) (k n : Nat) : Prop where
  le : k ≤ l.length
  val : n = dv (l.take k)
  dig : Dig (l.take k)
theorem RAt.zero (l : List UInt8) : RAt l 0 0 := ⟨Nat.zero_le _, rfl, by simp [Dig]⟩
theorem RAt.lt {l : List UInt8} {k n : Nat} (a : RAt l k n) (hl : l.length ≤ 13) : n < 10000000000000 := by
  have h1 := dv_lt _ a.dig
  rw [← a.val] at h1
  have h2 := Nat.pow_le_pow_right (n := 10) (by decide) (show (l.take k).length ≤ 13 by rw [List.length_take]; omega)
  have h3 : (10 : Nat) ^ 13 = 10000000000000 := by decide
  omega
theorem RAt.bad {l : List UInt8} {k n : Nat} (_ : RAt l k n) (h : k < l.length) (hb : ¬ (48 ≤ l[k].toNat ∧ l[k].toNat ≤ 57)) : ¬ Num l :=
  fun hn => hb (hn.2.1 _ (List.getElem_mem h))
theorem RAt.more {l : List UInt8} {k n : Nat} (a : RAt l k n) (h : k < l.length) (h1 : 48 ≤ l[k].toNat) (h2 : l[k].toNat ≤ 57) : RAt l (k + 1) (10 * n + (l[k].toNat - 48)) := by
  refine ⟨h, ?_, ?_⟩
  · rw [take_snoc h, dv_snoc, ← a.val]
  · rw [take_snoc h]
    intro c hc
    rcases List.mem_append.1 hc with h4 | h4
    · exact a.dig c h4
    · rw [List.mem_singleton.1 h4]; exact ⟨h1, h2⟩
theorem RAt.done {l : List UInt8} {k n : Nat} (a : RAt l k n) (h : ¬ k < l.length) (hl : 0 < l.length) (hz : Lead l) :
    n = dv l ∧ (Num l ↔ n < 1099511627776) := by
  have hk : k = l.length := by have := a.le; omega
  subst hk
  have hv := a.val
  have hd := a.dig
  rw [List.take_length] at hv hd
  refine ⟨hv, fun h => by rw [hv]; exact h.2.2.2, fun h => ⟨by intro e; subst e; simp at hl, hd, hz, by rw [← hv]; exact h⟩⟩

end Go.Proofs.YtkaildgbjokmnaaDoor
