/-
  A cursor over a section: made, read to its end (for any code of layer 20).
-/
import Derived.Test.YtkapmfopfddmbaaPk28
import Derived.Test.YtkapmfopfddmbaaCcMem
import Derived.Test.YtkapmfopfddmbaaPk5
import Derived.Test.YtkapmfopfddmbaaCurOps
import Derived.Test.YtkapmfopfddmbaaPk6
namespace Go.Proofs.Ytkapmfopfddmbaa
open Go.RowKit
set_option linter.unusedVariables false

theorem new_ce20 (A : Option Addr) (l : List Nat) (c : Nat) (w : World) (hs : Sees w w.heap.size A (bts l)) (hb : Byt l) (hm : l.length ≤ 1000000) :
    Calls Try.prog 14 #[.slice A l.length c] w fun e w' => ∃ p A' c', e = .returned (.pointer (some ⟨p, 0, none⟩)) ∧ w.heap.size ≤ p ∧ CE w.heap.size p l A' c' ⟨l, 0⟩ w' ∧ Below w.heap.size w w' :=
  (new_any A l w.heap.size c w hs (Nat.le_refl _) hb (by omega)).mono fun e w' ⟨p, A', c', he, hp, hc, hbl⟩ => ⟨p, A', c', he, hp, ⟨0, hc, fun _ => rfl⟩, hbl⟩

theorem end_ce20 {w : World} {lo p : Nat} {l : List Nat} {A : Option Addr} {c : Nat} {t : Ip} (h : CE lo p l A c t w) :
    Calls Try.prog 42 #[.pointer (some ⟨p, 0, none⟩)] w fun e w' => e = .returned (.tuple #[]) ∧ Mods (Is p) w w' ∧ CE lo p l A c ⟨t.rest, endT t⟩ w' := by
  obtain ⟨i, hc, hr⟩ := h
  refine (end_any hc).mono ?_
  rintro e w' ⟨rfl, hm, hc2⟩
  have he : endS l.length i t.err = endT t := by
    unfold endS endT
    by_cases h0 : t.err = 0
    · have h1 := hr h0
      have h2 : t.rest.length = l.length - i := by rw [← h1, List.length_drop]
      by_cases h3 : i < l.length
      · rw [if_pos ⟨h0, h3⟩, if_pos ⟨h0, by omega⟩]
      · rw [if_neg (fun h => h3 h.2), if_neg (fun h => h3 (by omega))]
    · rw [if_neg (fun h => h0 h.1), if_neg (fun h => h0 h.1)]
  rw [he] at hc2
  refine ⟨rfl, hm, i, hc2, fun h9 => hr ?_⟩
  exact (endT_zero h9).1

theorem rest_ce20 {w : World} {lo p : Nat} {l : List Nat} {A : Option Addr} {c : Nat} {t : Ip} (h : CE lo p l A c t w) (hl : l.length ≤ 1000000) :
    Calls Try.prog 17 #[.pointer (some ⟨p, 0, none⟩)] w fun e w' => e = .returned (.int .i64 (if t.err = 0 then (t.rest.length : Int) else 0)) ∧ ∃ n, w.drewN n = w' := by
  obtain ⟨i, hc, hr⟩ := h
  refine (left_any hc).mono ?_
  rintro e w' ⟨rfl, h⟩
  refine ⟨?_, h⟩
  unfold leftS
  by_cases h0 : t.err = 0
  · rw [if_pos h0, if_pos h0, ← hr h0, List.length_drop]
    have := hc.le
    rw [Int.ofNat_sub this]
  · rw [if_neg h0, if_neg h0]

/-- All that is left is read. -/
theorem all_ce20 {w : World} {lo p : Nat} {l : List Nat} {A : Option Addr} {c : Nat} {t : Ip} (h : CE lo p l A c t w) (hl : l.length ≤ 1000000) {n : Int} (hn : n = if t.err = 0 then (t.rest.length : Int) else 0) :
    Calls Try.prog 16 #[.pointer (some ⟨p, 0, none⟩), .int .i64 n] w fun e w' => ∃ A' c' x, e = .returned (.slice A' (x : List Nat).length c') ∧ Mods (Is p) w w' ∧ CE lo p l A c ⟨[], t.err⟩ w' ∧ (t.err = 0 → x = t.rest) ∧ w'.ownsRow w.heap.size 5 1 (.slice A' x.length c') x.length (bts x) := by
  obtain ⟨i, hc, hr⟩ := h
  have hle := hc.le
  have hln : t.err = 0 → t.rest.length ≤ 1000000 := fun h0 => by rw [← hr h0, List.length_drop]; omega
  refine (bytes_any hc n (by by_cases h0 : t.err = 0 <;> simp only [h0, if_true, if_false] at hn <;> have := hln <;> omega) (by omega)).mono ?_
  rintro e w' ⟨A', c', rfl, hm, hc2, ho, _⟩
  refine ⟨A', c', _, rfl, hm, ?_, ?_, ho⟩
  · by_cases h0 : t.err = 0
    · rw [if_pos h0] at hn
      have hb : bytesS n (l.drop i) = (0, n.toNat, 0) := by
        unfold bytesS
        rw [hr h0, if_neg (by omega), if_neg (by omega)]
      rw [hb, h0] at hc2
      refine ⟨_, by rw [h0]; exact hc2, fun _ => ?_⟩
      have e1 : stepI i 0 (0, n.toNat, 0) = i + n.toNat := if_pos ⟨rfl, rfl⟩
      rw [e1]
      have : t.rest.length = l.length - i := by rw [← hr h0, List.length_drop]
      exact List.drop_eq_nil_of_le (by omega)
    · have e1 : stepE t.err (bytesS n (l.drop i)) = t.err := if_neg h0
      rw [e1] at hc2
      exact ⟨_, hc2, fun h9 => absurd h9 h0⟩
  · intro h0
    rw [if_pos h0] at hn
    rw [h0, bytesL_ok (by omega) (by rw [hr h0]; omega), hr h0, hn]
    exact List.take_of_length_le (by simp)

theorem byt_ce20 {w : World} {lo p : Nat} {l : List Nat} {A : Option Addr} {c : Nat} {t : Ip} (h : CE lo p l A c t w) : byV t < 256 := byV_lt fun h0 => h.byt h0

end Go.Proofs.Ytkapmfopfddmbaa
