/-
  A list of byte slices as it comes in; what Split returns, in one form for both outcomes.
-/
import Derived.Test.YtgipdebkikldaaaSecSplit
import Derived.Deep.Matrix
namespace Go.Proofs.Ytgipdebkikldaaa
open Go.RowKit Go.ChangeShapes Go.WideShapes Go.Deep
set_option linter.unusedVariables false

/-- The slice address a shows len byte slices. -/
def IsLists (w : World) (a : Option Addr) (len cap : Nat) : Prop :=
  ∃ xs : List (List Nat), xs.length = len ∧ SeesL w w.heap.size a xs ∧ (∀ x ∈ xs, Byt x) ∧ len ≤ cap ∧ cap ≤ maxLen

theorem IsLists.of {H : Type} {enc : TypeId × Value → H} {w : World} {base : Nat} {held : Bool} {fuel : Nat} {a : Option Addr} {len cap : Nat} {x : DataW H × List MemPlace}
    (h : DataW.trod enc Try.prog w base (fun _ => true) held fuel 23 [.slice a len cap] = some x) : IsLists w a len cap := by
  rcases open_int_rows Try.underlying23 Try.underlying22 Try.underlying5 (by kernel_rfl) (by kernel_rfl) h with ⟨h0, _⟩ | ⟨ad, l, c, A, L, C, Z, hcs, _, hl, hm, _, hr⟩
  · injection h0 with h0 _
    injection h0 with h1 h2 h3
    subst h2
    subst h3
    exact ⟨[], rfl, SeesL.nil, by simp, Nat.le_refl _, Nat.zero_le _⟩
  · injection hcs with h0 _
    injection h0 with h1 h2 h3
    subst h1
    subst h2
    subst h3
    have each : ∀ r, r < cap → ∃ y : List Nat, y.length = L r ∧ Byt y ∧ Sees w w.heap.size (A r) (bts y) ∧ L r ≤ C r ∧ C r ≤ maxLen ∧ w.cell? (ad.add r) = some (.slice (A r) (L r) (C r)) := fun r hrc => by
      obtain ⟨k1, k2, k3, k4, k5, k6, k7⟩ := hr r hrc
      have hrow : IsRow .u8 w (A r) (L r) (C r) (Z r) := by
        cases hA : A r with
        | none =>
          have hc0 := k6 hA
          exact .inl ⟨rfl, by omega, hc0, List.eq_nil_of_length_eq_zero (by omega)⟩
        | some y => exact .inr ⟨y, rfl, k2, k3, k4, fun i hi => (k7 y hA).2 i (by omega), k5⟩
      obtain ⟨l, m1, m2, m3, m4, m5⟩ := hrow.bytes
      exact ⟨l, m1, m2, m3, m4, m5, k1⟩
    obtain ⟨y, hy⟩ := choose_lt each
    refine ⟨(List.range len).map y, by simp, ⟨(List.range len).map (fun r => .slice (A r) (L r) (C r)), fun hn => ?_, by simp, fun i x hx => ?_⟩, fun x hx => ?_, hl, hm⟩
    · have h0 : 0 < len := by
        rcases Nat.eq_zero_or_pos len with h0 | h0
        · subst h0; simp at hn
        · exact h0
      obtain ⟨_, _, _, _, _, hc0⟩ := hy 0 (by omega)
      obtain ⟨b, o, s⟩ := ad
      have hs : s = none := by simpa [Addr.add] using World.cell?_spot hc0
      subst hs
      refine ⟨b, o, rfl, World.block_lt_of_cell? w _ (by simpa [Addr.add] using hc0), fun i u hu => ?_⟩
      have hi : i < len := by
        rcases Nat.lt_or_ge i len with h0 | h0
        · exact h0
        · rw [List.getElem?_eq_none (by simp; omega)] at hu; cases hu
      obtain ⟨_, _, _, _, _, hci⟩ := hy i (by omega)
      rw [Addr.add_lit] at hci
      rw [hci, ← hu]
      simp [hi]
    · have hi : i < len := by
        rcases Nat.lt_or_ge i len with h0 | h0
        · exact h0
        · rw [List.getElem?_eq_none (by simp; omega)] at hx; cases hx
      have hx' : y i = x := by simpa [hi] using hx
      obtain ⟨m1, m2, m3, m4, m5, _⟩ := hy i (by omega)
      rw [hx'] at m1 m3
      exact ⟨A i, C i, by simp [hi, m1], by omega, m5, m3⟩
    · obtain ⟨i, hi, rfl⟩ := List.mem_map.1 hx
      exact (hy i (by have := List.mem_range.1 hi; omega)).2.1

/-- The contents that Split returns. -/
def contS (ids l : List Nat) : List (List Nat) := if splitE ids l = 0 then (splitF ids l).2.1 else []
theorem contS_len (ids l : List Nat) (hb : Byt l) : (contS ids l).length ≤ ids.length := by
  unfold contS
  split
  · next h =>
    rw [(split_canon hb h).2]
    exact Nat.le_refl _
  · exact Nat.zero_le _

def ContP (w : World) (ids l : List Nat) (e : Ending) (w' : World) : Prop :=
  ∃ A c, e = .returned (.tuple #[.slice A (contS ids l).length c, .int .i64 (splitE ids l : Nat)]) ∧ SeesL w' w'.heap.size A (contS ids l) ∧ Below w.heap.size w w'
theorem split_same (B : Nat) (A A' : Option Addr) (l ids : List Nat) (c c' : Nat) (w : World) (hs : Sees w B A (bts l)) (hi : Sees w B A' (bts ids)) (hB : B ≤ w.heap.size) (hby : Byt l) (hbi : Byt ids) (hm : l.length ≤ 1000000) (hn : ids.length ≤ 1000) :
    Calls Try.prog 9 #[.slice A l.length c, .slice A' ids.length c'] w (ContP w ids l) := by
  refine (split_any B A A' l ids c c' w hs hi hB hby hbi hm hn).mono ?_
  rintro e w' ⟨hb, ⟨h1, v, rfl, hl⟩ | ⟨h1, rfl⟩⟩
  · obtain ⟨A2, c2, rfl, _, _, hs2⟩ := hl.sees
    have hC : contS ids l = (splitF ids l).2.1 := if_pos h1
    exact ⟨A2, c2, by rw [hC, h1]; rfl, by rw [hC]; exact hs2, hb⟩
  · have hC : contS ids l = [] := if_neg h1
    exact ⟨none, 0, by rw [hC]; rfl, by rw [hC]; exact SeesL.nil, hb⟩

end Go.Proofs.Ytgipdebkikldaaa
