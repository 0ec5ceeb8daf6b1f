/-
  What a writer writes for the statement on reading back, and single reads of a cursor whose remaining bytes begin with an encoding.
-/
import Derived.Test.YtjgigdmjciedpaaCurAwake
import Derived.Test.YtjgigdmjciedpaaVarMath2
namespace Go.Proofs.Ytjgigdmjciedpaa
open Go.RowKit
set_option linter.unusedVariables false

def encN : Nat → List Nat → List Nat
  | _, [] => []
  | j, x :: r => putS x ++ j :: encN (j + 1) r
def encI : List Int → List Nat
  | [] => []
  | z :: r => putS (zz z).toNat ++ encI r

theorem encN_snoc : ∀ (l : List Nat) (j x : Nat), encN j (l ++ [x]) = encN j l ++ (putS x ++ [j + l.length])
  | [], j, x => by simp [encN]
  | y :: r, j, x => by
    have := encN_snoc r (j + 1) x
    simp only [List.cons_append, encN, this, List.append_assoc, List.length_cons]
    rw [show j + (r.length + 1) = j + 1 + r.length by omega]
theorem encI_snoc : ∀ (l : List Int) (x : Int), encI (l ++ [x]) = encI l ++ putS (zz x).toNat
  | [], x => by simp [encI]
  | y :: r, x => by simp only [List.cons_append, encI, encI_snoc r x, List.append_assoc]
theorem encN_ge : ∀ (l : List Nat) (j : Nat), 2 * l.length ≤ (encN j l).length
  | [], j => by simp [encN]
  | x :: r, j => by
    have h1 := encN_ge r (j + 1)
    have h2 := putS_pos x
    simp only [encN, List.length_append, List.length_cons]
    omega
theorem encN_le : ∀ (l : List Nat) (j : Nat), (encN j l).length ≤ 11 * l.length
  | [], j => by simp [encN]
  | x :: r, j => by
    have h1 := encN_le r (j + 1)
    have h2 := putS_le x
    simp only [encN, List.length_append, List.length_cons]
    omega
theorem encI_le : ∀ l : List Int, (encI l).length ≤ 10 * l.length
  | [] => by simp [encI]
  | x :: r => by
    have h1 := encI_le r
    have h2 := putS_le (zz x).toNat
    simp only [encI, List.length_append, List.length_cons]
    omega
theorem Byt.app {l r : List Nat} (h : Byt l) (k : Byt r) : Byt (l ++ r) := fun x hx => (List.mem_append.1 hx).elim (h x) (k x)
theorem putS_byt64 (v : Nat) (h : v < 18446744073709551616) : Byt (putS v) := putS_byt v (by
  have : (128 : Nat) ^ 10 = 1180591620717411303424 := by decide
  omega)
theorem encN_byt : ∀ (l : List Nat) (j : Nat), (∀ x ∈ l, x < 18446744073709551616) → j + l.length ≤ 256 → Byt (encN j l)
  | [], j, _, _ => fun x hx => by simp [encN] at hx
  | y :: r, j, h, hj => by
    simp only [encN]
    refine (putS_byt64 y (h y (by simp))).app fun x hx => ?_
    rcases List.mem_cons.1 hx with rfl | hx
    · simp only [List.length_cons] at hj; omega
    · exact encN_byt r (j + 1) (fun z hz => h z (by simp [hz])) (by simp only [List.length_cons] at hj; omega) x hx
theorem encI_byt : ∀ l : List Int, (∀ x ∈ l, InI x) → Byt (encI l)
  | [], _ => fun x hx => by simp [encI] at hx
  | y :: r, h => by
    simp only [encI]
    have hz := zz_in (h y (by simp))
    exact (putS_byt64 _ (by unfold InU at hz; omega)).app (encI_byt r fun z hz => h z (by simp [hz]))
theorem drop_more {l s t : List Nat} {i : Nat} (h : l.drop i = s ++ t) : l.drop (i + s.length) = t := by
  rw [← List.drop_drop, h, List.drop_left]

/-- A slice of unsigned numbers that came in. -/
theorem IsRow.nats {w : World} {a : Option Addr} {len cap : Nat} {zs : List Int} (h : IsRow .u64 w a len cap zs) :
    ∃ l : List Nat, l.length = len ∧ (∀ x ∈ l, x < 18446744073709551616) ∧ Sees w w.heap.size a (l.map fun x : Nat => Value.int .u64 (x : Int)) ∧ len ≤ cap ∧ cap ≤ maxLen := by
  rcases h with ⟨rfl, rfl, rfl, rfl⟩ | ⟨x, rfl, h1, h2, h3, h4, h5⟩
  · exact ⟨[], rfl, by simp, Sees.nil, Nat.le_refl _, Nat.zero_le _⟩
  · have hw : ∀ n ∈ zs, 0 ≤ n ∧ n ≤ 18446744073709551615 := fun n hn => u64_of_wf (h5 n hn)
    refine ⟨(zs.take len).map Int.toNat, by simp; omega, ?_, fun hn => ?_, h1, h2⟩
    · intro y hy
      obtain ⟨n, hn, rfl⟩ := List.mem_map.1 hy
      have := hw n (List.mem_of_mem_take hn)
      omega
    · have hl : 0 < len := by
        rcases Nat.eq_zero_or_pos len with h0 | h0
        · subst h0; simp at hn
        · exact h0
      have hc0 := h4 0 (by omega)
      obtain ⟨b, o, s⟩ := x
      have hs : s = none := by simpa [Addr.add] using World.cell?_spot hc0
      subst hs
      refine ⟨b, o, rfl, World.block_lt_of_cell? w _ (by simpa [Addr.add] using hc0), fun i u hu => ?_⟩
      have hi : i < len := by
        rcases Nat.lt_or_ge i len with h0 | h0
        · exact h0
        · rw [List.getElem?_eq_none (by simp; omega)] at hu; cases hu
      have hz : i < zs.length := by omega
      have := h4 i hz
      rw [Addr.add_lit] at this
      rw [this, ← hu]
      have hb := hw zs[i] (List.getElem_mem hz)
      simp [hi, hz, List.getD]
      omega
theorem IsRow.ints {w : World} {a : Option Addr} {len cap : Nat} {zs : List Int} (h : IsRow .i64 w a len cap zs) :
    ∃ l : List Int, l.length = len ∧ (∀ x ∈ l, InI x) ∧ Sees w w.heap.size a (l.map fun x : Int => Value.int .i64 x) ∧ len ≤ cap ∧ cap ≤ maxLen := by
  rcases h with ⟨rfl, rfl, rfl, rfl⟩ | ⟨x, rfl, h1, h2, h3, h4, h5⟩
  · exact ⟨[], rfl, by simp, Sees.nil, Nat.le_refl _, Nat.zero_le _⟩
  · refine ⟨zs.take len, by simp; omega, fun n hn => i64_of_wf (h5 n (List.mem_of_mem_take hn)), fun hn => ?_, h1, h2⟩
    have hl : 0 < len := by
      rcases Nat.eq_zero_or_pos len with h0 | h0
      · subst h0; simp at hn
      · exact h0
    have hc0 := h4 0 (by omega)
    obtain ⟨b, o, s⟩ := x
    have hs : s = none := by simpa [Addr.add] using World.cell?_spot hc0
    subst hs
    refine ⟨b, o, rfl, World.block_lt_of_cell? w _ (by simpa [Addr.add] using hc0), fun i u hu => ?_⟩
    have hi : i < len := by
      rcases Nat.lt_or_ge i len with h0 | h0
      · exact h0
      · rw [List.getElem?_eq_none (by simp; omega)] at hu; cases hu
    have hz : i < zs.length := by omega
    have := h4 i hz
    rw [Addr.add_lit] at this
    rw [this, ← hu]
    simp [hi, hz, List.getD]

section
variable {w : World} {lo p : Nat} {l : List Nat} {i : Nat} {A : Option Addr} {c : Nat}
/-- What a read leaves that succeeds: the rest r. -/
def Rest (w : World) (lo p : Nat) (l : List Nat) (A : Option Addr) (c : Nat) (r : List Nat) (w' : World) : Prop := Mods (Is p) w w' ∧ ∃ j, Cur w' lo p l j 0 A c ∧ l.drop j = r
theorem uint_read (h : Cur w lo p l i 0 A c) (x : Nat) (r : List Nat) (hd : l.drop i = putS x ++ r) (hx : x < 18446744073709551616) :
    Calls Try.prog 22 #[.pointer (some ⟨p, 0, none⟩), .int .u64 18446744073709551615] w fun e w' => e = .returned (.int .u64 x) ∧ Rest w lo p l A c r w' := by
  have hu : uintS 18446744073709551615 (l.drop i) = (x, (putS x).length, 0) := by
    unfold uintS
    rw [hd, getS_putS x r hx, if_neg]
    rintro ⟨_, h2⟩
    simp only at h2
    omega
  refine (uint_any h 18446744073709551615 (by decide)).mono ?_
  rintro e w' ⟨he, hm, hc⟩
  rw [hu] at he hc
  exact ⟨he, hm, _, hc, drop_more hd⟩
theorem byte_read (h : Cur w lo p l i 0 A c) (x : Nat) (r : List Nat) (hd : l.drop i = x :: r) :
    Calls Try.prog 23 #[.pointer (some ⟨p, 0, none⟩)] w fun e w' => e = .returned (.int .u8 x) ∧ Rest w lo p l A c r w' := by
  refine (byte_any h).mono ?_
  rintro e w' ⟨he, hm, hc⟩
  rw [hd] at he hc
  exact ⟨he, hm, _, hc, drop_more (s := [x]) hd⟩
theorem int_read (h : Cur w lo p l i 0 A c) (z : Int) (r : List Nat) (hd : l.drop i = putS (zz z).toNat ++ r) (hz : InI z) :
    Calls Try.prog 24 #[.pointer (some ⟨p, 0, none⟩)] w fun e w' => e = .returned (.int .i64 z) ∧ Rest w lo p l A c r w' := by
  have hzz := zz_in hz
  unfold InU at hzz
  have hu : getS (l.drop i) = ((zz z).toNat, (putS (zz z).toNat).length, 0) := by rw [hd, getS_putS _ r (by omega)]
  refine (int_any h (by rw [hu]; show (zz z).toNat ≤ _; omega)).mono ?_
  rintro e w' ⟨he, hm, hc⟩
  rw [hu] at he hc
  refine ⟨he.trans ?_, hm, _, hc, drop_more hd⟩
  show Ending.returned (.int .i64 (uz ((zz z).toNat : Int))) = _
  rw [Int.toNat_of_nonneg (by omega), uz_zz]
theorem count_read (h : Cur w lo p l i 0 A c) (x : Nat) (r : List Nat) (hd : l.drop i = putS x ++ r) (hx : x ≤ 100) (hr : 2 * x ≤ r.length) :
    Calls Try.prog 21 #[.pointer (some ⟨p, 0, none⟩), .int .i64 100, .int .i64 2] w fun e w' => e = .returned (.int .i64 x) ∧ Rest w lo p l A c r w' := by
  have hg : getS (l.drop i) = (x, (putS x).length, 0) := by rw [hd, getS_putS _ r (by omega)]
  have hu : uintS 100 (l.drop i) = (x, (putS x).length, 0) := by
    unfold uintS
    rw [hg, if_neg]
    rintro ⟨_, h2⟩
    simp only at h2
    omega
  have hk : countS 100 2 (l.drop i) = (x, (putS x).length, 0) := by
    unfold countS
    rw [if_neg (by omega), hu, if_neg]
    rintro ⟨_, _, h2⟩
    rw [hd, List.length_append] at h2
    simp only at h2
    omega
  refine (count_any h 100 2 (by decide) (by decide)).mono ?_
  rintro e w' ⟨he, hm, hc⟩
  rw [hk] at he hc
  exact ⟨he, hm, _, hc, drop_more hd⟩
end

end Go.Proofs.Ytjgigdmjciedpaa
