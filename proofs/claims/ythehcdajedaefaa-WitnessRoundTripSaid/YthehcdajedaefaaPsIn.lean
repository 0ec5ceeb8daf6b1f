/-
  Pairs and lists of pairs as they come in.
-/
import Derived.Test.YthehcdajedaefaaPsAt0
import Derived.Test.YthehcdajedaefaaPk7
namespace Go.Proofs.Ythehcdajedaefaa
open Go.RowKit Go.ChangeShapes Go.WideShapes Go.Deep
set_option linter.unusedVariables false

def PrWf (p : Pr) : Prop := I64 p.1 ∧ I64 p.2

theorem len2 {α : Type} {l : List α} (h : l.length = 2) : ∃ a b, l = [a, b] := by
  rcases l with _ | ⟨a, _ | ⟨b, _ | ⟨c, r⟩⟩⟩ <;> simp at h
  exact ⟨_, _, rfl⟩

theorem pick_lt {α : Type} [Inhabited α] {n : Nat} {P : Nat → α → Prop} (h : ∀ i, i < n → ∃ y, P i y) : ∃ f : Nat → α, ∀ i, i < n → P i (f i) :=
  ⟨fun i => if hi : i < n then Classical.choose (h i hi) else default, fun i hi => by
    simp only [hi, dif_pos]
    exact Classical.choose_spec (h i hi)⟩

section
variable {H : Type} {enc : TypeId × Value → H} {w : World} {base : Nat} {spare : Nat → Bool} {held : Bool} {fuel : Nat}

theorem pr_of {cs : List Value} {x : DataW H × List MemPlace} (h : DataW.trod enc Try.prog w base spare held fuel 52 cs = some x) : ∃ p : Pr, cs = [.int .i64 p.1, .int .i64 p.2] ∧ PrWf p := by
  obtain ⟨xs, n, _, _, hl, hxl, hf⟩ := DataW.trod_struct Try.underlying52 h
  have h5 : cs.length = 2 := hl.trans (by kernel_rfl)
  have hx5 : xs.length = 2 := hxl
  obtain ⟨v0, e0, w0⟩ := fld_int (k := 0) Try.underlying3 (by kernel_rfl) (hf 0 _ rfl) (by omega) (by rw [h5]; decide)
  obtain ⟨v1, e1, w1⟩ := fld_int (k := 1) Try.underlying50 (by kernel_rfl) (hf 1 _ rfl) (by omega) (by rw [h5]; decide)
  refine ⟨(v0, v1), ?_, w0, w1⟩
  obtain ⟨a, b, rfl⟩ := len2 h5
  simp only [List.getElem?_cons_zero, List.getElem?_cons_succ, Option.some.injEq] at e0 e1
  rw [e0, e1]

/-- A pair that came in. -/
def IsPr (w : World) (cs : Array Value) : Prop := ∃ p : Pr, cs = #[.int .i64 p.1, .int .i64 p.2] ∧ PrWf p

theorem IsPr.of {cs : Array Value} {x : DataW H × List MemPlace} (h : DataW.trod enc Try.prog w base spare held fuel 52 cs.toList = some x) : IsPr w cs := by
  obtain ⟨p, hp, hw⟩ := pr_of h
  obtain ⟨cs⟩ := cs
  exact ⟨p, congrArg List.toArray hp, hw⟩

/-- A list of pairs that came in. -/
def IsPrs (w : World) (a : Option Addr) (len cap : Nat) : Prop := ∃ l : List Pr, l.length = len ∧ (∀ p ∈ l, PrWf p) ∧ Sees w w.heap.size a (prs l) ∧ len ≤ cap ∧ cap ≤ maxLen

theorem IsPrs.of {a : Option Addr} {len cap : Nat} {x : DataW H × List MemPlace} (h : DataW.trod enc Try.prog w base spare held fuel 53 [.slice a len cap] = some x) : IsPrs w a len cap := by
  obtain ⟨hl, hm, hi⟩ := trod_elems (s := 2) Try.underlying53 (by kernel_rfl) (by decide) h
  have each : ∀ i, i < len → ∃ p : Pr, PrWf p ∧ ∃ b o, a = some ⟨b, o, none⟩ ∧ b < w.heap.size ∧ w.cell? ⟨b, o + i * 2, none⟩ = some (.int .i64 p.1) ∧ w.cell? ⟨b, o + (i * 2 + 1), none⟩ = some (.int .i64 p.2) := fun i hil => by
    obtain ⟨b, o, n, cs, z, rfl, hlt, hcl, hat, ht⟩ := hi i hil
    obtain ⟨p, rfl, hp⟩ := pr_of ht
    exact ⟨p, hp, b, o, rfl, hlt, hat 0 (by decide), hat 1 (by decide)⟩
  obtain ⟨y, hy⟩ := pick_lt each
  have hget : ∀ i (hil : i < len), ((List.range len).map y)[i]'(by simpa using hil) = y i := fun i hil => by simp
  refine ⟨(List.range len).map y, by simp, fun p hp => ?_, fun hn => ?_, hl, hm⟩
  · obtain ⟨i, hir, rfl⟩ := List.mem_map.1 hp
    exact (hy i (List.mem_range.1 hir)).1
  · have h0 : 0 < len := by
      rcases Nat.eq_zero_or_pos len with h0 | h0
      · subst h0; simp [prs] at hn
      · exact h0
    obtain ⟨_, b, o, rfl, hb, _⟩ := hy 0 h0
    refine ⟨b, o, rfl, hb, fun t u hu => ?_⟩
    have htl : t < ((List.range len).map y).length * 2 := by
      have := (List.getElem?_eq_some_iff.1 hu).1
      rwa [prs_length] at this
    simp only [List.length_map, List.length_range] at htl
    have hil : t / 2 < len := by omega
    obtain ⟨_, b', o', e, _, c0, c1⟩ := hy (t / 2) hil
    injection e with e
    injection e with e1 e2
    subst e1
    subst e2
    obtain ⟨g0, g1⟩ := prs_get (l := (List.range len).map y) (i := t / 2) (by simpa using hil)
    rw [hget _ hil] at g0 g1
    rcases Nat.mod_two_eq_zero_or_one t with h | h
    · rw [show t / 2 * 2 = t by omega] at g0 c0
      rw [c0, ← g0, hu]
    · rw [show t / 2 * 2 + 1 = t by omega] at g1 c1
      rw [c1, ← g1, hu]

end

theorem LS.in {w : World} {a : Option Addr} {len cap : Nat} {l : List Pr} (hl : l.length = len) (hs : Sees w w.heap.size a (prs l)) (h1 : len ≤ cap) (h2 : cap ≤ maxLen) (h3 : len ≤ 1000) : LS w a len cap l := ⟨hl, h1, h2, hs, h3⟩

end Go.Proofs.Ythehcdajedaefaa
