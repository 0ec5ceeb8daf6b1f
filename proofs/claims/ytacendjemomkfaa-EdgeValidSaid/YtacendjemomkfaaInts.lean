/-
  Slices of 64-bit integers in memory.
-/
import Derived.Test.YtacendjemomkfaaMem
namespace Go.Proofs.Ytacendjemomkfaa
open Go.RowKit
set_option linter.unusedVariables false

def InI (n : Int) : Prop := -9223372036854775808 ≤ n ∧ n ≤ 9223372036854775807

/-- Integers as cells. -/
def ints (l : List Int) : List Value := l.map fun x => Value.int .i64 x
theorem ints_get {l : List Int} {k : Nat} (h : k < l.length) : (ints l)[k]? = some (.int .i64 l[k]) := by simp [ints, h]
theorem ints_ne {l : List Int} {k : Nat} (h : k < l.length) : ints l ≠ [] := by
  intro e
  have := congrArg List.length e
  simp [ints] at this
  subst this
  simp at h
theorem ints_at {w : World} {B : Nat} {A : Option Addr} {l : List Int} (h : Sees w B A (ints l)) {k : Nat} (hk : k < l.length) : ∃ b o, A = some ⟨b, o, none⟩ ∧ b < B ∧ w.cell? ⟨b, o + k, none⟩ = some (.int .i64 l[k]) := by
  obtain ⟨b, o, e, hb, hc⟩ := h (ints_ne hk)
  exact ⟨b, o, e, hb, hc k _ (ints_get hk)⟩

theorem infoI64 : (Try.prog.info? 2).map (fun i => (i.zero, i.size, i.bytes)) = some (some (.int .i64 0), 1, 8) := by kernel_rfl
theorem ints_length (l : List Int) : (ints l).length = l.length := by simp [ints]
theorem ints_append (l r : List Int) : ints (l ++ r) = ints l ++ ints r := by simp [ints]
theorem ints_one (l : List Int) : ∀ u ∈ ints l, u.oneCell' = true := by
  intro u hu
  obtain ⟨_, _, rfl⟩ := List.mem_map.1 hu
  rfl
theorem ints_take (l : List Int) (k : Nat) : (ints l).take k = ints (l.take k) := by simp [ints, List.map_take]

theorem ints_set (l : List Int) (k : Nat) (v : Int) : ints (l.set k v) = (ints l).set k (.int .i64 v) := by simp [ints, List.map_set]
theorem own_frozen {w : World} {lo : Nat} {e : TypeId} {n s g k : Nat} {v : Value} {xs : List Value} (h : w.ownsRow lo e s v n xs) (hg : v.ownBlock = some g) : w.frozen? ⟨g, k, none⟩ = false := by
  rcases h.2 with ⟨rfl, _⟩ | ⟨g', cap, cur, rfl, _, hh, _⟩
  · cases hg
  · simp only [Value.ownBlock, Option.some.injEq] at hg
    subst hg
    exact Row.frozen (T := e) (cs := cur) hh k

/-- A slice of 64-bit integers that came in: its elements as a list. -/
theorem IsRow.ints {w : World} {a : Option Addr} {len cap : Nat} {zs : List Int} (h : IsRow .i64 w a len cap zs) :
    ∃ l : List Int, l.length = len ∧ (∀ v ∈ l, InI v) ∧ Sees w w.heap.size a (ints l) ∧ len ≤ cap ∧ cap ≤ maxLen := by
  rcases h with ⟨rfl, rfl, rfl, rfl⟩ | ⟨x, rfl, h1, h2, h3, h4, h5⟩
  · exact ⟨[], rfl, fun v hv => by simp at hv, Sees.nil, Nat.le_refl _, Nat.zero_le _⟩
  · refine ⟨zs.take len, by simp; omega, fun v hv => i64_of_wf (h5 v (List.mem_of_mem_take hv)), fun hn => ?_, h1, h2⟩
    have hl : 0 < len := by
      rcases Nat.eq_zero_or_pos len with h0 | h0
      · subst h0; simp [Go.Proofs.Ytacendjemomkfaa.ints] at hn
      · exact h0
    have hc0 := h4 0 (by omega)
    obtain ⟨b, o, s⟩ := x
    have hs : s = none := by simpa [Addr.add] using World.cell?_spot hc0
    subst hs
    refine ⟨b, o, rfl, World.block_lt_of_cell? w _ (by simpa [Addr.add] using hc0), fun i u hu => ?_⟩
    have hi : i < (zs.take len).length := by
      rcases Nat.lt_or_ge i (zs.take len).length with h0 | h0
      · exact h0
      · rw [List.getElem?_eq_none (by rw [ints_length]; exact h0)] at hu; cases hu
    rw [ints_get hi] at hu
    have hz : i < zs.length := by have := List.length_take_le len zs; simp at hi; omega
    have := h4 i hz
    rw [Addr.add_lit] at this
    rw [this, ← hu]
    simp [List.getD, hz]

end Go.Proofs.Ytacendjemomkfaa
