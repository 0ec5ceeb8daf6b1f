import Derived.Test.YtkapmfopfddmbaaPk12
import Derived.Test.YtkapmfopfddmbaaPk1
import Derived.Test.YtkapmfopfddmbaaPk14
import Derived.Test.YtkapmfopfddmbaaPk7

/-
  Invariants, initial pairs: the mathematics of layer 15.
-/
namespace Go.Proofs.Ytkapmfopfddmbaa
set_option linter.unusedVariables false

/-- The error of a pair behind another one. -/
def prE (v r s : Int) (q : Option Pr) (p : Pr) : Int :=
  if p.1 < 0 ∨ v ≤ p.1 then 9 else if locS p.2 r s = false then 10 else
  match q with
  | none => 0
  | some q => if ltP q p then 0 else 13

/-- The first error of an invariant, behind a pair. -/
def vlE (v r s : Int) : Option Pr → List Pr → Int
  | _, [] => 0
  | q, p :: l => if prE v r s q p ≠ 0 then prE v r s q p else vlE v r s (some p) l

/-- The first error of some invariants. -/
def vlsE (v r s : Int) : List (List Pr) → Int
  | [] => 0
  | l :: w => if vlE v r s none l ≠ 0 then vlE v r s none l else vlsE v r s w

/-- What Valid returns, the limit aside. -/
def validE (w : List (List Pr)) (n v r s : Int) : Int := if (w.length : Int) ≠ n then 14 else vlsE v r s w

/-- The pair ahead of position k. -/
def bef (l : List Pr) (k : Nat) : Option Pr := if k = 0 then none else l[k - 1]?

theorem vlE_step {v r s : Int} {l : List Pr} {k : Nat} (hk : k < l.length) : vlE v r s (bef l k) (l.drop k) = if prE v r s (bef l k) l[k] ≠ 0 then prE v r s (bef l k) l[k] else vlE v r s (bef l (k + 1)) (l.drop (k + 1)) := by
  rw [List.drop_eq_getElem_cons hk, vlE]
  have e : bef l (k + 1) = some l[k] := by simp [bef, hk]
  rw [e]

theorem vlsE_step {v r s : Int} {w : List (List Pr)} {k : Nat} (hk : k < w.length) : vlsE v r s (w.drop k) = if vlE v r s none w[k] ≠ 0 then vlE v r s none w[k] else vlsE v r s (w.drop (k + 1)) := by
  rw [List.drop_eq_getElem_cons hk, vlsE]

/-- How many pairs some invariants have. -/
def totP (w : List (List Pr)) : Nat := (w.map List.length).sum

theorem totP_le {w : List (List Pr)} {m : Nat} (h : ∀ l ∈ w, l.length ≤ m) : totP w ≤ w.length * m := by
  induction w with
  | nil => simp [totP]
  | cons x w ih =>
    have h1 := h x (by simp)
    have h2 := ih fun l hl => h l (by simp [hl])
    simp only [totP, List.map_cons, List.sum_cons, List.length_cons] at *
    rw [Nat.add_mul, Nat.one_mul]
    omega

theorem totP_take {w : List (List Pr)} {k : Nat} (hk : k < w.length) : totP (w.take (k + 1)) = totP (w.take k) + w[k].length := by
  unfold totP
  rw [List.take_succ_eq_append_getElem hk, List.map_append, List.sum_append]
  simp

theorem take_few {w : List (List Pr)} {m : Nat} (h : ∀ l ∈ w, l.length ≤ m) (k : Nat) : ∀ l ∈ w.take k, l.length ≤ m := fun l hl => h l (List.mem_of_mem_take hl)

/-- Whether a pair, not negative, is an initial one. -/
def initP (p : Pr) (a : Int) : Bool :=
  if p.1 < a then decide (p.2 % 2 = 1) && decide (p.2 / 2 = p.1) else decide (p.2 % 2 ≠ 1) || decide (a ≤ p.2 / 2)

/-- Locations in range, ascending. -/
def locsA (r s : Nat) (n : Nat) : List Int := (if n < r then [2 * (n : Int)] else []) ++ (if n < s then [2 * (n : Int) + 1] else [])

def locsN (r s m : Nat) : List Int := (List.range m).flatMap (locsA r s)

/-- The initial pairs of a register. -/
def rowA (a : Int) (v : Nat) (ls : List Int) : List Pr := (ls.filter fun l => initP ((v : Int), l) a).map fun l => ((v : Int), l)

def allA (a : Int) (r s : Nat) (n : Nat) : List Pr := (List.range n).flatMap fun v => rowA a v (locsN r s (max r s))

theorem locsN_succ (r s m : Nat) : locsN r s (m + 1) = locsN r s m ++ locsA r s m := by simp [locsN, List.range_succ]

theorem rowA_append (a : Int) (v : Nat) (l1 l2 : List Int) : rowA a v (l1 ++ l2) = rowA a v l1 ++ rowA a v l2 := by simp [rowA]

theorem rowA_one (a : Int) (v : Nat) (l : Int) : rowA a v [l] = if initP ((v : Int), l) a then [((v : Int), l)] else [] := by
  simp only [rowA, List.filter_cons, List.filter_nil]
  split <;> rfl

theorem allA_succ (a : Int) (r s n : Nat) : allA a r s (n + 1) = allA a r s n ++ rowA a n (locsN r s (max r s)) := by simp [allA, List.range_succ]

theorem mem_locsL {r s n : Nat} {l : Int} : l ∈ locsA r s n ↔ (l = 2 * (n : Int) ∧ n < r) ∨ (l = 2 * (n : Int) + 1 ∧ n < s) := by
  unfold locsA
  rw [List.mem_append]
  constructor
  · rintro (h | h)
    · split at h
      · simp at h; exact .inl ⟨h, by assumption⟩
      · simp at h
    · split at h
      · simp at h; exact .inr ⟨h, by assumption⟩
      · simp at h
  · rintro (⟨rfl, h⟩ | ⟨rfl, h⟩)
    · left; rw [if_pos h]; simp
    · right; rw [if_pos h]; simp

theorem mem_locsN {r s : Nat} {l : Int} : l ∈ locsN r s (max r s) ↔ locS l r s = true := by
  unfold locsN
  rw [List.mem_flatMap]
  constructor
  · rintro ⟨n, hn, h⟩
    rcases mem_locsL.1 h with ⟨rfl, h⟩ | ⟨rfl, h⟩
    · unfold locS
      rw [if_neg (by omega), if_neg (by omega)]
      simp
      omega
    · unfold locS
      rw [if_neg (by omega), if_pos (by omega)]
      simp
      omega
  · intro h
    have h0 := locS_nn h
    unfold locS at h
    rw [if_neg (by omega)] at h
    refine ⟨(l / 2).toNat, ?_, mem_locsL.2 ?_⟩
    · rw [List.mem_range]
      split at h <;> simp at h <;> omega
    · split at h <;> simp at h <;> omega

theorem mem_allA {a : Int} {r s n : Nat} {p : Pr} : p ∈ allA a r s n ↔ (0 ≤ p.1 ∧ p.1 < n) ∧ locS p.2 r s = true ∧ initP p a = true := by
  unfold allA rowA
  simp only [List.mem_flatMap, List.mem_range, List.mem_map, List.mem_filter, mem_locsN]
  constructor
  · rintro ⟨v, hv, l, ⟨h1, h2⟩, rfl⟩
    exact ⟨⟨by simp, by simp; omega⟩, h1, h2⟩
  · rintro ⟨⟨h1, h2⟩, h3, h4⟩
    obtain ⟨v, l⟩ := p
    dsimp only at *
    refine ⟨v.toNat, by omega, l, ⟨h3, ?_⟩, ?_⟩
    · rw [Int.toNat_of_nonneg h1]; exact h4
    · rw [Int.toNat_of_nonneg h1]

theorem locsL_len (r s n : Nat) : (locsA r s n).length ≤ 2 := by
  unfold locsA
  split <;> split <;> simp

theorem locsN_len (r s m : Nat) : (locsN r s m).length ≤ 2 * m := by
  induction m with
  | zero => simp [locsN]
  | succ m ih =>
    rw [locsN_succ, List.length_append]
    have := locsL_len r s m
    omega

theorem rowA_len (a : Int) (v : Nat) (l : List Int) : (rowA a v l).length ≤ l.length := by
  unfold rowA
  rw [List.length_map]
  exact List.length_filter_le _ _

theorem allA_len (a : Int) (r s n : Nat) : (allA a r s n).length ≤ n * (2 * max r s) := by
  induction n with
  | zero => simp [allA]
  | succ n ih =>
    rw [allA_succ, List.length_append, Nat.add_mul, Nat.one_mul]
    have h1 := rowA_len a n (locsN r s (max r s))
    have h2 := locsN_len r s (max r s)
    omega

theorem locsL_lt {r s n : Nat} : (locsA r s n).Pairwise fun a b => a < b := by
  unfold locsA
  split <;> split <;> simp
  omega

theorem locsN_lt {r s : Nat} : ∀ m, (locsN r s m).Pairwise fun a b => a < b
  | 0 => by simp [locsN]
  | m + 1 => by
    rw [locsN_succ, List.pairwise_append]
    refine ⟨locsN_lt m, locsL_lt, fun x hx y hy => ?_⟩
    unfold locsN at hx
    rw [List.mem_flatMap] at hx
    obtain ⟨n, hn, hx⟩ := hx
    have hn := List.mem_range.1 hn
    rcases mem_locsL.1 hx with ⟨rfl, _⟩ | ⟨rfl, _⟩ <;> rcases mem_locsL.1 hy with ⟨rfl, _⟩ | ⟨rfl, _⟩ <;> omega

theorem rowA_srt (a : Int) (v : Nat) {ls : List Int} (h : ls.Pairwise fun a b => a < b) : Srt (rowA a v ls) := by
  unfold Srt rowA
  rw [List.pairwise_map]
  exact (h.sublist List.filter_sublist).imp fun h => by rw [ltP_iff]; exact .inr ⟨rfl, h⟩

theorem allA_srt (a : Int) (r s : Nat) : ∀ n, Srt (allA a r s n)
  | 0 => by simp [allA, Srt]
  | n + 1 => by
    rw [allA_succ]
    unfold Srt
    rw [List.pairwise_append]
    refine ⟨allA_srt a r s n, rowA_srt a n (locsN_lt _), fun x hx y hy => ?_⟩
    have h1 := (mem_allA.1 hx).1
    unfold rowA at hy
    obtain ⟨l, _, rfl⟩ := List.mem_map.1 hy
    rw [ltP_iff]
    left
    show x.1 < (n : Int)
    omega

/-- The first pair that is not an initial one. -/
def entP (w : List Pr) (a : Int) : Option Pr := w.find? fun p => !initP p a

theorem entP_none {w : List Pr} {a : Int} : entP w a = none ↔ ∀ p ∈ w, initP p a = true := by simp [entP]

theorem entP_take {w : List Pr} {a : Int} {i : Nat} (hi : i < w.length) (h : ∀ x ∈ w.take i, initP x a = true) (hn : initP w[i] a = false) : entP w a = some w[i] := by
  have e : w = w.take i ++ w[i] :: w.drop (i + 1) := by simp
  have e1 : (w.take i).find? (fun x => !initP x a) = none := List.find?_eq_none.2 (by simpa using h)
  have e2 : (w[i] :: w.drop (i + 1)).find? (fun x => !initP x a) = some w[i] := List.find?_cons_of_pos (by simp [hn])
  unfold entP
  refine (congrArg (List.find? fun x => !initP x a) e).trans ?_
  rw [List.find?_append, e1, Option.none_or, e2]

theorem vlE_range {v r s : Int} : ∀ {l : List Pr} {q : Option Pr}, vlE v r s q l = 0 → ∀ p ∈ l, (0 ≤ p.1 ∧ p.1 < v) ∧ locS p.2 r s = true
  | [], _, _ => fun p hp => by simp at hp
  | x :: l, q, h => by
    rw [vlE] at h
    split at h
    · next h1 => exact absurd h h1
    · next h1 =>
      have h1 : prE v r s q x = 0 := by omega
      intro p hp
      rcases List.mem_cons.1 hp with rfl | hp
      · unfold prE at h1
        split at h1
        · omega
        · split at h1
          · omega
          · next h2 h3 => exact ⟨by omega, by simpa using h3⟩
      · exact vlE_range h p hp

/-- What Entry finds in a valid invariant is what is missing in the initial pairs. -/
theorem entP_mis {w : List Pr} {a : Int} {v r s : Nat} (h : ∀ p ∈ w, (0 ≤ p.1 ∧ p.1 < (v : Int)) ∧ locS p.2 r s = true) : entP w a = misP w (allA a r s v) := by
  unfold entP misP
  have : ∀ (u : List Pr), (∀ p ∈ u, (0 ≤ p.1 ∧ p.1 < (v : Int)) ∧ locS p.2 r s = true) → u.find? (fun p => !initP p a) = u.find? fun x => !hasP (allA a r s v) x := by
    intro u hu
    induction u with
    | nil => rfl
    | cons x u ih =>
      obtain ⟨h1, h2⟩ := hu x (by simp)
      have e : hasP (allA a r s v) x = initP x a := by
        unfold hasP
        rw [Bool.eq_iff_iff, decide_eq_true_iff, mem_allA]
        exact ⟨fun h => h.2.2, fun h => ⟨h1, h2, h⟩⟩
      rw [List.find?_cons, List.find?_cons, e, ih fun p hp => hu p (by simp [hp])]
  exact this w h

end Go.Proofs.Ytkapmfopfddmbaa

/-
  A certificate as data, and its validity.
-/
namespace Go.Proofs.Ytkapmfopfddmbaa
open Go.RowKit
set_option linter.unusedVariables false

/-- A certificate. -/
structure Ct where
  sa : Int
  sr : Int
  bs : List Blk
  ta : Int
  tr : Int
  ts : Int
  ms : List MBlk
  inv : List (List Pr)

def Ct.i (c : Ct) (k : Nat) : List Pr := c.inv.getD k []

/-- The error of a certificate. -/
def validC (c : Ct) : Int :=
  if eF c.sa c.sr c.bs ≠ 0 then eF c.sa c.sr c.bs else if eMF c.ta c.tr c.ts c.ms ≠ 0 then eMF c.ta c.tr c.ts c.ms
  else if c.bs.length ≠ c.ms.length ∨ c.sa ≠ c.ta then 14 else validE c.inv c.bs.length c.sr c.tr c.ts

end Go.Proofs.Ytkapmfopfddmbaa

/-
  Pairs and lists of pairs as they come in.
-/
namespace Go.Proofs.Ytkapmfopfddmbaa
open Go.RowKit Go.ChangeShapes Go.WideShapes Go.Deep
set_option linter.unusedVariables false

def PrWf (p : Pr) : Prop := I64 p.1 ∧ I64 p.2

theorem len2 {α : Type} {l : List α} (h : l.length = 2) : ∃ a b, l = [a, b] := by
  rcases l with _ | ⟨a, _ | ⟨b, _ | ⟨c, r⟩⟩⟩ <;> simp at h
  exact ⟨_, _, rfl⟩

theorem pick_lt {α : Type} [Inhabited α] {n : Nat} {P : Nat → α → Prop} (h : ∀ i, i < n → ∃ y, P i y) : ∃ f : Nat → α, ∀ i, i < n → P i (f i) :=
  ⟨fun i => if hi : i < n then Classical.choose (h i hi) else default, fun i hi => by
    simp only [hi, dif_pos]
    exact Classical.choose_spec (h i hi)⟩

section
variable {H : Type} {enc : TypeId × Value → H} {w : World} {base : Nat} {spare : Nat → Bool} {held : Bool} {fuel : Nat}

theorem pr_of {cs : List Value} {x : DataW H × List MemPlace} (h : DataW.trod enc Try.prog w base spare held fuel 112 cs = some x) : ∃ p : Pr, cs = [.int .i64 p.1, .int .i64 p.2] ∧ PrWf p := by
  obtain ⟨xs, n, _, _, hl, hxl, hf⟩ := DataW.trod_struct Try.underlying112 h
  have h5 : cs.length = 2 := hl.trans (by kernel_rfl)
  have hx5 : xs.length = 2 := hxl
  obtain ⟨v0, e0, w0⟩ := fld_int (k := 0) Try.underlying3 (by kernel_rfl) (hf 0 _ rfl) (by omega) (by rw [h5]; decide)
  obtain ⟨v1, e1, w1⟩ := fld_int (k := 1) Try.underlying95 (by kernel_rfl) (hf 1 _ rfl) (by omega) (by rw [h5]; decide)
  refine ⟨(v0, v1), ?_, w0, w1⟩
  obtain ⟨a, b, rfl⟩ := len2 h5
  simp only [List.getElem?_cons_zero, List.getElem?_cons_succ, Option.some.injEq] at e0 e1
  rw [e0, e1]

/-- A pair that came in. -/
def IsPr (w : World) (cs : Array Value) : Prop := ∃ p : Pr, cs = #[.int .i64 p.1, .int .i64 p.2] ∧ PrWf p

theorem IsPr.of {cs : Array Value} {x : DataW H × List MemPlace} (h : DataW.trod enc Try.prog w base spare held fuel 112 cs.toList = some x) : IsPr w cs := by
  obtain ⟨p, hp, hw⟩ := pr_of h
  obtain ⟨cs⟩ := cs
  exact ⟨p, congrArg List.toArray hp, hw⟩

/-- A list of pairs that came in. -/
def IsPrs (w : World) (a : Option Addr) (len cap : Nat) : Prop := ∃ l : List Pr, l.length = len ∧ (∀ p ∈ l, PrWf p) ∧ Sees w w.heap.size a (prs l) ∧ len ≤ cap ∧ cap ≤ maxLen

theorem IsPrs.of {a : Option Addr} {len cap : Nat} {x : DataW H × List MemPlace} (h : DataW.trod enc Try.prog w base spare held fuel 110 [.slice a len cap] = some x) : IsPrs w a len cap := by
  obtain ⟨hl, hm, hi⟩ := trod_elems (s := 2) Try.underlying110 (by kernel_rfl) (by decide) h
  have each : ∀ i, i < len → ∃ p : Pr, PrWf p ∧ ∃ b o, a = some ⟨b, o, none⟩ ∧ b < w.heap.size ∧ w.cell? ⟨b, o + i * 2, none⟩ = some (.int .i64 p.1) ∧ w.cell? ⟨b, o + (i * 2 + 1), none⟩ = some (.int .i64 p.2) := fun i hil => by
    obtain ⟨b, o, n, cs, z, rfl, hlt, hcl, hat, ht⟩ := hi i hil
    obtain ⟨p, rfl, hp⟩ := pr_of ht
    exact ⟨p, hp, b, o, rfl, hlt, hat 0 (by decide), hat 1 (by decide)⟩
  obtain ⟨y, hy⟩ := pick_lt each
  have hget : ∀ i (hil : i < len), ((List.range len).map y)[i]'(by simpa using hil) = y i := fun i hil => by simp
  refine ⟨(List.range len).map y, by simp, fun p hp => ?_, fun hn => ?_, hl, hm⟩
  · obtain ⟨i, hir, rfl⟩ := List.mem_map.1 hp
    exact (hy i (List.mem_range.1 hir)).1
  · have h0 : 0 < len := by
      rcases Nat.eq_zero_or_pos len with h0 | h0
      · subst h0; simp [prs] at hn
      · exact h0
    obtain ⟨_, b, o, rfl, hb, _⟩ := hy 0 h0
    refine ⟨b, o, rfl, hb, fun t u hu => ?_⟩
    have htl : t < ((List.range len).map y).length * 2 := by
      have := (List.getElem?_eq_some_iff.1 hu).1
      rwa [prs_length] at this
    simp only [List.length_map, List.length_range] at htl
    have hil : t / 2 < len := by omega
    obtain ⟨_, b', o', e, _, c0, c1⟩ := hy (t / 2) hil
    injection e with e
    injection e with e1 e2
    subst e1
    subst e2
    obtain ⟨g0, g1⟩ := prs_get (l := (List.range len).map y) (i := t / 2) (by simpa using hil)
    rw [hget _ hil] at g0 g1
    rcases Nat.mod_two_eq_zero_or_one t with h | h
    · rw [show t / 2 * 2 = t by omega] at g0 c0
      rw [c0, ← g0, hu]
    · rw [show t / 2 * 2 + 1 = t by omega] at g1 c1
      rw [c1, ← g1, hu]

end

theorem LS.in {w : World} {a : Option Addr} {len cap : Nat} {l : List Pr} (hl : l.length = len) (hs : Sees w w.heap.size a (prs l)) (h1 : len ≤ cap) (h2 : cap ≤ maxLen) (h3 : len ≤ 1000) : LS w a len cap l := ⟨hl, h1, h2, hs, h3⟩

end Go.Proofs.Ytkapmfopfddmbaa

/-
  Lists of pairs in a slice: what memory shows, and what comes in.
-/
namespace Go.Proofs.Ytkapmfopfddmbaa
open Go.RowKit Go.ChangeShapes Go.WideShapes Go.Deep
set_option linter.unusedVariables false

/-- The values vs are slices of pairs below block B that show the lists of pairs xs. -/
def CellsP (w : World) (B : Nat) (vs : List Value) (xs : List (List Pr)) : Prop :=
  vs.length = xs.length ∧ ∀ (i : Nat) (x : List Pr), xs[i]? = some x → ∃ A c, vs[i]? = some (Value.slice A x.length c) ∧ x.length ≤ c ∧ c ≤ maxLen ∧ Sees w B A (prs x)

/-- The slice address A shows slices of pairs that show the lists of pairs xs, all below block B. -/
def SeesPP (w : World) (B : Nat) (A : Option Addr) (xs : List (List Pr)) : Prop := ∃ vs, Sees w B A vs ∧ CellsP w B vs xs

section
variable {w w' : World} {B B' : Nat} {A : Option Addr} {vs : List Value} {xs : List (List Pr)}

theorem CellsP.nil (w : World) (B : Nat) : CellsP w B [] [] := ⟨rfl, fun i x h => by simp at h⟩

theorem CellsP.keep (h : CellsP w B vs xs) (hk : ∀ p : Addr, p.block < B → w'.cell? p = w.cell? p) : CellsP w' B vs xs :=
  ⟨h.1, fun i x hx => by
    obtain ⟨A, c, h1, h2, h3, h4⟩ := h.2 i x hx
    exact ⟨A, c, h1, h2, h3, h4.keep hk⟩⟩

theorem CellsP.more (h : CellsP w B vs xs) (hB : B ≤ B') : CellsP w B' vs xs :=
  ⟨h.1, fun i x hx => by
    obtain ⟨A, c, h1, h2, h3, h4⟩ := h.2 i x hx
    exact ⟨A, c, h1, h2, h3, h4.more hB⟩⟩

theorem CellsP.below (h : CellsP w B vs xs) (hb : Below B w w') : CellsP w' B vs xs := h.keep fun _ hp => hb.cell hp

theorem CellsP.drewN (h : CellsP w B vs xs) (n : Nat) : CellsP (w.drewN n) B vs xs := h.keep fun _ _ => rfl

theorem CellsP.snoc (h : CellsP w B vs xs) {A : Option Addr} {x : List Pr} {c : Nat} (hc : x.length ≤ c) (hm : c ≤ maxLen) (hs : Sees w B A (prs x)) : CellsP w B (vs ++ [Value.slice A x.length c]) (xs ++ [x]) := by
  refine ⟨by simp [h.1], fun i y hy => ?_⟩
  rcases Nat.lt_trichotomy i xs.length with hi | hi | hi
  · rw [List.getElem?_append_left hi] at hy
    obtain ⟨A, c, h1, h2⟩ := h.2 i y hy
    exact ⟨A, c, by rw [List.getElem?_append_left (by rw [h.1]; exact hi)]; exact h1, h2⟩
  · subst hi
    rw [List.getElem?_append_right (Nat.le_refl _), Nat.sub_self] at hy
    injection hy with hy
    subst hy
    exact ⟨A, c, by rw [List.getElem?_append_right (by rw [h.1]; exact Nat.le_refl _), h.1, Nat.sub_self]; rfl, hc, hm, hs⟩
  · rw [List.getElem?_eq_none (by simp; omega)] at hy
    cases hy

theorem CellsP.one (h : CellsP w B vs xs) : ∀ u ∈ vs, u.oneCell' = true := by
  intro u hu
  obtain ⟨i, hi, rfl⟩ := List.getElem_of_mem hu
  have hi' : i < xs.length := by rw [← h.1]; exact hi
  obtain ⟨A, c, h1, _⟩ := h.2 i xs[i] (List.getElem?_eq_getElem hi')
  rw [List.getElem?_eq_getElem hi] at h1
  injection h1 with h1
  rw [h1]
  rfl

theorem SeesPP.keep (h : SeesPP w B A xs) (hk : ∀ p : Addr, p.block < B → w'.cell? p = w.cell? p) : SeesPP w' B A xs := by
  obtain ⟨vs, h1, h2⟩ := h
  exact ⟨vs, h1.keep hk, h2.keep hk⟩

theorem SeesPP.more (h : SeesPP w B A xs) (hB : B ≤ B') : SeesPP w B' A xs := by
  obtain ⟨vs, h1, h2⟩ := h
  exact ⟨vs, h1.more hB, h2.more hB⟩

theorem SeesPP.below (h : SeesPP w B A xs) (hb : Below B w w') : SeesPP w' B A xs := h.keep fun _ hp => hb.cell hp

theorem SeesPP.drewN (h : SeesPP w B A xs) (n : Nat) : SeesPP (w.drewN n) B A xs := h.keep fun _ _ => rfl

theorem SeesPP.alloc (h : SeesPP w B A xs) (hB : B ≤ w.heap.size) (o : Obj) : SeesPP (w.alloc o) B A xs := h.keep fun p hp => World.cell?_alloc_lt w o p (by omega)

theorem SeesPP.nil : SeesPP w B A [] := ⟨[], Sees.nil, CellsP.nil w B⟩

theorem SeesPP.at_ (h : SeesPP w B A xs) {i : Nat} (hi : i < xs.length) :
    ∃ b o Ai ci, A = some ⟨b, o, none⟩ ∧ b < B ∧ w.cell? ⟨b, o + i, none⟩ = some (.slice Ai xs[i].length ci) ∧ xs[i].length ≤ ci ∧ ci ≤ maxLen ∧ Sees w B Ai (prs xs[i]) := by
  obtain ⟨vs, h1, h2, h3⟩ := h
  obtain ⟨Ai, ci, h4, h5, h6, h7⟩ := h3 i xs[i] (List.getElem?_eq_getElem hi)
  obtain ⟨b, o, hA, hb, hc⟩ := h1 (by intro e; subst e; simp at h4)
  exact ⟨b, o, Ai, ci, hA, hb, hc i _ h4, h5, h6, h7⟩

end

/-- A slice of pairs that came in as a value. -/
theorem isPrs_val {H : Type} {enc : TypeId × Value → H} {w : World} {base : Nat} {spare : Nat → Bool} {held : Bool} {fuel : Nat} {v : Value} {y : DataW H × List MemPlace}
    (h : DataW.trod enc Try.prog w base spare held fuel 110 [v] = some y) : ∃ A n c, v = .slice A n c ∧ IsPrs w A n c := by
  rcases open_slice Try.underlying110 h with ⟨h0, _⟩ | ⟨ad, l, c, _, _, _, _, h0, _⟩
  · injection h0 with h0 _
    subst h0
    exact ⟨none, 0, 0, rfl, IsPrs.of h⟩
  · injection h0 with h0 _
    subst h0
    exact ⟨some ad, l, c, rfl, IsPrs.of h⟩

/-- A list of lists of pairs that came in. -/
def IsPrss (w : World) (a : Option Addr) (len cap : Nat) : Prop :=
  ∃ xs : List (List Pr), xs.length = len ∧ SeesPP w w.heap.size a xs ∧ (∀ x ∈ xs, ∀ p ∈ x, PrWf p) ∧ len ≤ cap ∧ cap ≤ maxLen

theorem IsPrss.of {H : Type} {enc : TypeId × Value → H} {w : World} {base : Nat} {spare : Nat → Bool} {held : Bool} {fuel : Nat} {a : Option Addr} {len cap : Nat} {x : DataW H × List MemPlace}
    (h : DataW.trod enc Try.prog w base spare held fuel 72 [.slice a len cap] = some x) : IsPrss w a len cap := by
  obtain ⟨hl, hm, hi⟩ := trod_elems (s := 1) Try.underlying72 (by kernel_rfl) (by decide) h
  have each : ∀ i, i < len → ∃ y : List Pr, (∀ p ∈ y, PrWf p) ∧ ∃ A c b o, a = some ⟨b, o, none⟩ ∧ b < w.heap.size ∧ w.cell? ⟨b, o + i, none⟩ = some (.slice A y.length c) ∧ y.length ≤ c ∧ c ≤ maxLen ∧ Sees w w.heap.size A (prs y) := fun i hil => by
    obtain ⟨b, o, n, cs, z, rfl, hlt, hcl, hat, ht⟩ := hi i hil
    obtain ⟨v, rfl⟩ : ∃ v, cs = [v] := by
      rcases cs with _ | ⟨v, _ | ⟨u, r⟩⟩ <;> simp at hcl
      exact ⟨v, rfl⟩
    obtain ⟨A, n, c, rfl, y, rfl, h2, h3, h4, h5⟩ := isPrs_val ht
    exact ⟨y, h2, A, c, b, o, rfl, hlt, by have := hat 0 (by decide); simpa using this, h4, h5, h3⟩
  obtain ⟨y, hy⟩ := pick_lt each
  obtain ⟨A, hA⟩ := pick_lt (P := fun i (A : Option Addr) => ∃ c b o, a = some ⟨b, o, none⟩ ∧ b < w.heap.size ∧ w.cell? ⟨b, o + i, none⟩ = some (.slice A (y i).length c) ∧ (y i).length ≤ c ∧ c ≤ maxLen ∧ Sees w w.heap.size A (prs (y i))) fun i hil => (hy i hil).2
  obtain ⟨c, hc⟩ := pick_lt (P := fun i (c : Nat) => ∃ b o, a = some ⟨b, o, none⟩ ∧ b < w.heap.size ∧ w.cell? ⟨b, o + i, none⟩ = some (.slice (A i) (y i).length c) ∧ (y i).length ≤ c ∧ c ≤ maxLen ∧ Sees w w.heap.size (A i) (prs (y i))) fun i hil => hA i hil
  refine ⟨(List.range len).map y, by simp, ⟨(List.range len).map (fun i => .slice (A i) (y i).length (c i)), fun hn => ?_, by simp, fun i x hx => ?_⟩, fun x hx => ?_, hl, hm⟩
  · have h0 : 0 < len := by
      rcases Nat.eq_zero_or_pos len with h0 | h0
      · subst h0; simp at hn
      · exact h0
    obtain ⟨b, o, rfl, hb, _⟩ := hc 0 h0
    refine ⟨b, o, rfl, hb, fun i u hu => ?_⟩
    have hi : i < len := by
      rcases Nat.lt_or_ge i len with h0 | h0
      · exact h0
      · rw [List.getElem?_eq_none (by simp; omega)] at hu; cases hu
    obtain ⟨b', o', e, _, hcell, _⟩ := hc i hi
    injection e with e
    injection e with e1 e2
    subst e1
    subst e2
    rw [hcell, ← hu]
    simp [hi]
  · have hi : i < len := by
      rcases Nat.lt_or_ge i len with h0 | h0
      · exact h0
      · rw [List.getElem?_eq_none (by simp; omega)] at hx; cases hx
    have hx' : y i = x := by simpa [hi] using hx
    obtain ⟨b, o, _, _, _, k1, k2, k3⟩ := hc i hi
    rw [hx'] at k1 k3
    exact ⟨A i, c i, by simp [hi, hx'], k1, k2, k3⟩
  · obtain ⟨i, hi, rfl⟩ := List.mem_map.1 hx
    exact (hy i (List.mem_range.1 hi)).1

end Go.Proofs.Ytkapmfopfddmbaa

/-
  A certificate that came in as a value, and what memory shows of one.
-/
namespace Go.Proofs.Ytkapmfopfddmbaa
open Go.RowKit Go.ChangeShapes Go.WideShapes Go.Deep
set_option linter.unusedVariables false

/-- What memory shows of a certificate's slices, below block B. -/
structure CeAt (w : World) (B : Nat) (A1 : Option Addr) (k1 : Nat) (A2 : Option Addr) (k2 : Nat) (A3 : Option Addr) (k3 : Nat) (c : Ct) : Prop where
  bs : BlksAt w B A1 c.bs
  ms : MBlksAt w B A2 c.ms
  inv : SeesPP w B A3 c.inv
  l1 : c.bs.length ≤ k1 ∧ k1 ≤ maxLen
  l2 : c.ms.length ≤ k2 ∧ k2 ≤ maxLen
  l3 : c.inv.length ≤ k3 ∧ k3 ≤ maxLen

section
variable {w w' : World} {B B' : Nat} {A1 : Option Addr} {k1 : Nat} {A2 : Option Addr} {k2 : Nat} {A3 : Option Addr} {k3 : Nat} {c : Ct}

theorem CeAt.below (h : CeAt w B A1 k1 A2 k2 A3 k3 c) (hb : Below B w w') : CeAt w' B A1 k1 A2 k2 A3 k3 c := ⟨h.bs.below hb, h.ms.below hb, h.inv.below hb, h.l1, h.l2, h.l3⟩

theorem CeAt.more (h : CeAt w B A1 k1 A2 k2 A3 k3 c) (hB : B ≤ B') : CeAt w B' A1 k1 A2 k2 A3 k3 c := ⟨h.bs.more hB, h.ms.more hB, h.inv.more hB, h.l1, h.l2, h.l3⟩

end

/-- What a certificate's numbers and instructions are. -/
structure Ct.Wf (c : Ct) : Prop where
  sa : I64 c.sa
  sr : I64 c.sr
  ta : I64 c.ta
  tr : I64 c.tr
  ts : I64 c.ts
  bs : ∀ y ∈ c.bs, y.Wf
  ms : ∀ y ∈ c.ms, y.Wf
  inv : ∀ l ∈ c.inv, ∀ p ∈ l, PrWf p

/-- A certificate as a value. -/
def IsCert (w : World) (cs : Array Value) : Prop :=
  ∃ (c : Ct) (A1 : Option Addr) (k1 : Nat) (A2 : Option Addr) (k2 : Nat) (A3 : Option Addr) (k3 : Nat),
    cs = #[.int .i64 c.sa, .int .i64 c.sr, .slice A1 c.bs.length k1, .int .i64 c.ta, .int .i64 c.tr, .int .i64 c.ts, .slice A2 c.ms.length k2, .slice A3 c.inv.length k3] ∧ CeAt w w.heap.size A1 k1 A2 k2 A3 k3 c ∧ c.Wf

theorem len8 {α : Type} {l : List α} (h : l.length = 8) : ∃ a b c d e f g i, l = [a, b, c, d, e, f, g, i] := by
  rcases l with _ | ⟨a, _ | ⟨b, _ | ⟨c, _ | ⟨d, _ | ⟨e, _ | ⟨f, _ | ⟨g, _ | ⟨i, _ | ⟨j, r⟩⟩⟩⟩⟩⟩⟩⟩⟩ <;> simp at h
  exact ⟨_, _, _, _, _, _, _, _, rfl⟩

end Go.Proofs.Ytkapmfopfddmbaa
