/-
  Lists of pairs in a slice: what memory shows, and what comes in.
-/
import Derived.Test.YtcoehkphdfejjaaPk6
import Derived.Test.YtcoehkphdfejjaaPk1
namespace Go.Proofs.Ytcoehkphdfejjaa
open Go.RowKit Go.ChangeShapes Go.WideShapes Go.Deep
set_option linter.unusedVariables false

/-- The values vs are slices of pairs below block B that show the lists of pairs xs. -/
def CellsP (w : World) (B : Nat) (vs : List Value) (xs : List (List Pr)) : Prop :=
  vs.length = xs.length ∧ ∀ (i : Nat) (x : List Pr), xs[i]? = some x → ∃ A c, vs[i]? = some (Value.slice A x.length c) ∧ x.length ≤ c ∧ c ≤ maxLen ∧ Sees w B A (prs x)

/-- The slice address A shows slices of pairs that show the lists of pairs xs, all below block B. -/
def SeesPP (w : World) (B : Nat) (A : Option Addr) (xs : List (List Pr)) : Prop := ∃ vs, Sees w B A vs ∧ CellsP w B vs xs

section
variable {w w' : World} {B B' : Nat} {A : Option Addr} {vs : List Value} {xs : List (List Pr)}

theorem CellsP.nil (w : World) (B : Nat) : CellsP w B [] [] := ⟨rfl, fun i x h => by simp at h⟩

theorem CellsP.keep (h : CellsP w B vs xs) (hk : ∀ p : Addr, p.block < B → w'.cell? p = w.cell? p) : CellsP w' B vs xs :=
  ⟨h.1, fun i x hx => by
    obtain ⟨A, c, h1, h2, h3, h4⟩ := h.2 i x hx
    exact ⟨A, c, h1, h2, h3, h4.keep hk⟩⟩

theorem CellsP.more (h : CellsP w B vs xs) (hB : B ≤ B') : CellsP w B' vs xs :=
  ⟨h.1, fun i x hx => by
    obtain ⟨A, c, h1, h2, h3, h4⟩ := h.2 i x hx
    exact ⟨A, c, h1, h2, h3, h4.more hB⟩⟩

theorem CellsP.below (h : CellsP w B vs xs) (hb : Below B w w') : CellsP w' B vs xs := h.keep fun _ hp => hb.cell hp

theorem CellsP.drewN (h : CellsP w B vs xs) (n : Nat) : CellsP (w.drewN n) B vs xs := h.keep fun _ _ => rfl

theorem CellsP.snoc (h : CellsP w B vs xs) {A : Option Addr} {x : List Pr} {c : Nat} (hc : x.length ≤ c) (hm : c ≤ maxLen) (hs : Sees w B A (prs x)) : CellsP w B (vs ++ [Value.slice A x.length c]) (xs ++ [x]) := by
  refine ⟨by simp [h.1], fun i y hy => ?_⟩
  rcases Nat.lt_trichotomy i xs.length with hi | hi | hi
  · rw [List.getElem?_append_left hi] at hy
    obtain ⟨A, c, h1, h2⟩ := h.2 i y hy
    exact ⟨A, c, by rw [List.getElem?_append_left (by rw [h.1]; exact hi)]; exact h1, h2⟩
  · subst hi
    rw [List.getElem?_append_right (Nat.le_refl _), Nat.sub_self] at hy
    injection hy with hy
    subst hy
    exact ⟨A, c, by rw [List.getElem?_append_right (by rw [h.1]; exact Nat.le_refl _), h.1, Nat.sub_self]; rfl, hc, hm, hs⟩
  · rw [List.getElem?_eq_none (by simp; omega)] at hy
    cases hy

theorem CellsP.one (h : CellsP w B vs xs) : ∀ u ∈ vs, u.oneCell' = true := by
  intro u hu
  obtain ⟨i, hi, rfl⟩ := List.getElem_of_mem hu
  have hi' : i < xs.length := by rw [← h.1]; exact hi
  obtain ⟨A, c, h1, _⟩ := h.2 i xs[i] (List.getElem?_eq_getElem hi')
  rw [List.getElem?_eq_getElem hi] at h1
  injection h1 with h1
  rw [h1]
  rfl

theorem SeesPP.keep (h : SeesPP w B A xs) (hk : ∀ p : Addr, p.block < B → w'.cell? p = w.cell? p) : SeesPP w' B A xs := by
  obtain ⟨vs, h1, h2⟩ := h
  exact ⟨vs, h1.keep hk, h2.keep hk⟩

theorem SeesPP.more (h : SeesPP w B A xs) (hB : B ≤ B') : SeesPP w B' A xs := by
  obtain ⟨vs, h1, h2⟩ := h
  exact ⟨vs, h1.more hB, h2.more hB⟩

theorem SeesPP.below (h : SeesPP w B A xs) (hb : Below B w w') : SeesPP w' B A xs := h.keep fun _ hp => hb.cell hp

theorem SeesPP.drewN (h : SeesPP w B A xs) (n : Nat) : SeesPP (w.drewN n) B A xs := h.keep fun _ _ => rfl

theorem SeesPP.alloc (h : SeesPP w B A xs) (hB : B ≤ w.heap.size) (o : Obj) : SeesPP (w.alloc o) B A xs := h.keep fun p hp => World.cell?_alloc_lt w o p (by omega)

theorem SeesPP.nil : SeesPP w B A [] := ⟨[], Sees.nil, CellsP.nil w B⟩

theorem SeesPP.at_ (h : SeesPP w B A xs) {i : Nat} (hi : i < xs.length) :
    ∃ b o Ai ci, A = some ⟨b, o, none⟩ ∧ b < B ∧ w.cell? ⟨b, o + i, none⟩ = some (.slice Ai xs[i].length ci) ∧ xs[i].length ≤ ci ∧ ci ≤ maxLen ∧ Sees w B Ai (prs xs[i]) := by
  obtain ⟨vs, h1, h2, h3⟩ := h
  obtain ⟨Ai, ci, h4, h5, h6, h7⟩ := h3 i xs[i] (List.getElem?_eq_getElem hi)
  obtain ⟨b, o, hA, hb, hc⟩ := h1 (by intro e; subst e; simp at h4)
  exact ⟨b, o, Ai, ci, hA, hb, hc i _ h4, h5, h6, h7⟩

end

/-- A slice of pairs that came in as a value. -/
theorem isPrs_val {H : Type} {enc : TypeId × Value → H} {w : World} {base : Nat} {spare : Nat → Bool} {held : Bool} {fuel : Nat} {v : Value} {y : DataW H × List MemPlace}
    (h : DataW.trod enc Try.prog w base spare held fuel 63 [v] = some y) : ∃ A n c, v = .slice A n c ∧ IsPrs w A n c := by
  rcases open_slice Try.underlying63 h with ⟨h0, _⟩ | ⟨ad, l, c, _, _, _, _, h0, _⟩
  · injection h0 with h0 _
    subst h0
    exact ⟨none, 0, 0, rfl, IsPrs.of h⟩
  · injection h0 with h0 _
    subst h0
    exact ⟨some ad, l, c, rfl, IsPrs.of h⟩

/-- A list of lists of pairs that came in. -/
def IsPrss (w : World) (a : Option Addr) (len cap : Nat) : Prop :=
  ∃ xs : List (List Pr), xs.length = len ∧ SeesPP w w.heap.size a xs ∧ (∀ x ∈ xs, ∀ p ∈ x, PrWf p) ∧ len ≤ cap ∧ cap ≤ maxLen

theorem IsPrss.of {H : Type} {enc : TypeId × Value → H} {w : World} {base : Nat} {spare : Nat → Bool} {held : Bool} {fuel : Nat} {a : Option Addr} {len cap : Nat} {x : DataW H × List MemPlace}
    (h : DataW.trod enc Try.prog w base spare held fuel 30 [.slice a len cap] = some x) : IsPrss w a len cap := by
  obtain ⟨hl, hm, hi⟩ := trod_elems (s := 1) Try.underlying30 (by kernel_rfl) (by decide) h
  have each : ∀ i, i < len → ∃ y : List Pr, (∀ p ∈ y, PrWf p) ∧ ∃ A c b o, a = some ⟨b, o, none⟩ ∧ b < w.heap.size ∧ w.cell? ⟨b, o + i, none⟩ = some (.slice A y.length c) ∧ y.length ≤ c ∧ c ≤ maxLen ∧ Sees w w.heap.size A (prs y) := fun i hil => by
    obtain ⟨b, o, n, cs, z, rfl, hlt, hcl, hat, ht⟩ := hi i hil
    obtain ⟨v, rfl⟩ : ∃ v, cs = [v] := by
      rcases cs with _ | ⟨v, _ | ⟨u, r⟩⟩ <;> simp at hcl
      exact ⟨v, rfl⟩
    obtain ⟨A, n, c, rfl, y, rfl, h2, h3, h4, h5⟩ := isPrs_val ht
    exact ⟨y, h2, A, c, b, o, rfl, hlt, by have := hat 0 (by decide); simpa using this, h4, h5, h3⟩
  obtain ⟨y, hy⟩ := pick_lt each
  obtain ⟨A, hA⟩ := pick_lt (P := fun i (A : Option Addr) => ∃ c b o, a = some ⟨b, o, none⟩ ∧ b < w.heap.size ∧ w.cell? ⟨b, o + i, none⟩ = some (.slice A (y i).length c) ∧ (y i).length ≤ c ∧ c ≤ maxLen ∧ Sees w w.heap.size A (prs (y i))) fun i hil => (hy i hil).2
  obtain ⟨c, hc⟩ := pick_lt (P := fun i (c : Nat) => ∃ b o, a = some ⟨b, o, none⟩ ∧ b < w.heap.size ∧ w.cell? ⟨b, o + i, none⟩ = some (.slice (A i) (y i).length c) ∧ (y i).length ≤ c ∧ c ≤ maxLen ∧ Sees w w.heap.size (A i) (prs (y i))) fun i hil => hA i hil
  refine ⟨(List.range len).map y, by simp, ⟨(List.range len).map (fun i => .slice (A i) (y i).length (c i)), fun hn => ?_, by simp, fun i x hx => ?_⟩, fun x hx => ?_, hl, hm⟩
  · have h0 : 0 < len := by
      rcases Nat.eq_zero_or_pos len with h0 | h0
      · subst h0; simp at hn
      · exact h0
    obtain ⟨b, o, rfl, hb, _⟩ := hc 0 h0
    refine ⟨b, o, rfl, hb, fun i u hu => ?_⟩
    have hi : i < len := by
      rcases Nat.lt_or_ge i len with h0 | h0
      · exact h0
      · rw [List.getElem?_eq_none (by simp; omega)] at hu; cases hu
    obtain ⟨b', o', e, _, hcell, _⟩ := hc i hi
    injection e with e
    injection e with e1 e2
    subst e1
    subst e2
    rw [hcell, ← hu]
    simp [hi]
  · have hi : i < len := by
      rcases Nat.lt_or_ge i len with h0 | h0
      · exact h0
      · rw [List.getElem?_eq_none (by simp; omega)] at hx; cases hx
    have hx' : y i = x := by simpa [hi] using hx
    obtain ⟨b, o, _, _, _, k1, k2, k3⟩ := hc i hi
    rw [hx'] at k1 k3
    exact ⟨A i, c i, by simp [hi, hx'], k1, k2, k3⟩
  · obtain ⟨i, hi, rfl⟩ := List.mem_map.1 hx
    exact (hy i (List.mem_range.1 hi)).1

end Go.Proofs.Ytcoehkphdfejjaa
