import Derived.Test.YtkapmfopfddmbaaPk13
import Derived.Laws.MakeOwn

/-
  The program's Missing and Subset.
-/
namespace Go.Proofs.Ytkapmfopfddmbaa
open Go.RowKit
set_option linter.unusedVariables false

/-- What is left of b while Missing goes through a. -/
structure BAt (w : World) (B : Nat) (b : List Pr) (j n : Nat) (A : Option Addr) (c : Nat) : Prop where
  len : n + j = b.length
  cap : n ≤ c
  cmx : c ≤ maxLen
  see : Sees w B A (prs (b.drop j))

theorem BAt.get {w : World} {B : Nat} {b : List Pr} {j n : Nat} {A : Option Addr} {c : Nat} (h : BAt w B b j n A c) (hn : 0 < n) : ∃ bb oo, A = some ⟨bb, oo, none⟩ ∧ bb < B ∧ w.cell? ⟨bb, oo, none⟩ = some (.int .i64 (b[j]'(by have := h.len; omega)).1) ∧ w.cell? ⟨bb, oo + 1, none⟩ = some (.int .i64 (b[j]'(by have := h.len; omega)).2) := by
  have hl := h.len
  obtain ⟨bb, oo, e, hb, h0, h1⟩ := sees_pair h.see (i := 0) (by simp; omega)
  simp only [Nat.zero_mul, Nat.add_zero, List.getElem_drop] at h0 h1
  exact ⟨bb, oo, e, hb, h0, h1⟩

theorem BAt.next {w : World} {B : Nat} {b : List Pr} {j n bb oo : Nat} {c : Nat} (h : BAt w B b j (n + 1) (some ⟨bb, oo, none⟩) c) {A' : Option Addr} (hA : A' = if c = 1 then some ⟨bb, oo, none⟩ else some ⟨bb, oo + 2, none⟩) : BAt w B b (j + 1) n A' (c - 1) := by
  have hl := h.len
  have hc := h.cap
  have hm := h.cmx
  refine ⟨by omega, by omega, by omega, fun hn => ?_⟩
  have hn0 : 0 < n := by
    rcases Nat.eq_zero_or_pos n with h0 | h0
    · subst h0
      rw [List.drop_of_length_le (by omega)] at hn
      exact absurd rfl hn
    · exact h0
  rw [if_neg (by omega)] at hA
  obtain ⟨b1, o1, e, hb, hcell⟩ := h.see (by
    intro e
    have := congrArg List.length e
    rw [prs_length, List.length_drop, List.length_nil] at this
    omega)
  injection e with e
  injection e with e1 e2
  subst e1
  subst e2
  refine ⟨bb, oo + 2, hA, hb, fun i u hu => ?_⟩
  rw [Nat.add_assoc]
  refine hcell _ u ?_
  have e3 : prs (b.drop (j + 1)) = (prs (b.drop j)).drop (1 * 2) := by rw [prs_drop, List.drop_drop]
  rw [e3, List.getElem?_drop] at hu
  exact hu

theorem srt_lt_all {b : List Pr} (h : Srt b) {j : Nat} {p : Pr} (hj : j < b.length) (h1 : ∀ y ∈ b.take j, ltP y p = true) (h2 : ltP b[j] p = false) (h3 : b[j] ≠ p) : p ∉ b := by
  intro hp
  rw [← List.take_append_drop j b, List.mem_append, drop_head hj] at hp
  rcases hp with hp | hp | hp
  · have := h1 p hp
    rw [ltP_irrefl] at this
    cases this
  · exact h3 hp.symm
  · have := h.head_lt hj hp
    rw [h2] at this
    cases this

end Go.Proofs.Ytkapmfopfddmbaa

/-
  Union and Add of the program.
-/
namespace Go.Proofs.Ytkapmfopfddmbaa
open Go.RowKit
set_option linter.unusedVariables false

/-- What Union has made of the first k pairs of a and the first j of b. -/
structure UN (a b : List Pr) (k j : Nat) (o : List Pr) : Prop where
  srt : Srt o
  mem : ∀ q, q ∈ o ↔ q ∈ a.take k ∨ q ∈ b.take j
  la : ∀ q ∈ o, ∀ x ∈ a.drop k, ltP q x = true
  lb : ∀ q ∈ o, ∀ y ∈ b.drop j, ltP q y = true
  len : o.length ≤ k + j

theorem UN.start (a b : List Pr) : UN a b 0 0 [] := ⟨Srt.nil, fun q => by simp, fun q h => by simp at h, fun q h => by simp at h, Nat.zero_le _⟩

section
variable {a b o : List Pr} {k j : Nat}

theorem UN.stb (h : UN a b k j o) (ha : Srt a) (hb : Srt b) (hk : k < a.length) (hj : j < b.length) (hlt : ltP b[j] a[k] = true) : UN a b k (j + 1) (o ++ [b[j]]) where
  srt := Srt.snoc h.srt fun y hy => h.lb y hy _ ((drop_head hj).2 (.inl rfl))
  mem q := by rw [List.mem_append, List.mem_singleton, h.mem, mem_take_succ hj, or_assoc]
  la q hq x hx := by
    rcases List.mem_append.1 hq with hq | hq
    · exact h.la q hq x hx
    · rw [List.mem_singleton] at hq
      subst hq
      rcases (drop_head hk).1 hx with e | e
      · rw [e]; exact hlt
      · exact ltP_trans hlt (ha.head_lt hk e)
  lb q hq y hy := by
    rcases List.mem_append.1 hq with hq | hq
    · exact h.lb q hq y ((drop_head hj).2 (.inr hy))
    · rw [List.mem_singleton] at hq
      subst hq
      exact hb.head_lt hj hy
  len := by have := h.len; simp; omega

theorem UN.sta (h : UN a b k j o) (ha : Srt a) (hk : k < a.length) (hlt : ∀ y ∈ b.drop j, ltP a[k] y = true) : UN a b (k + 1) j (o ++ [a[k]]) where
  srt := Srt.snoc h.srt fun y hy => h.la y hy _ ((drop_head hk).2 (.inl rfl))
  mem q := by
    rw [List.mem_append, List.mem_singleton, h.mem, mem_take_succ hk, or_assoc, or_assoc, or_comm (a := q ∈ b.take j)]
  la q hq x hx := by
    rcases List.mem_append.1 hq with hq | hq
    · exact h.la q hq x ((drop_head hk).2 (.inr hx))
    · rw [List.mem_singleton] at hq
      subst hq
      exact ha.head_lt hk hx
  lb q hq y hy := by
    rcases List.mem_append.1 hq with hq | hq
    · exact h.lb q hq y hy
    · rw [List.mem_singleton] at hq
      subst hq
      exact hlt y hy
  len := by have := h.len; simp; omega

theorem UN.stab (h : UN a b k j o) (ha : Srt a) (hb : Srt b) (hk : k < a.length) (hj : j < b.length) (he : b[j] = a[k]) : UN a b (k + 1) (j + 1) (o ++ [a[k]]) where
  srt := Srt.snoc h.srt fun y hy => h.la y hy _ ((drop_head hk).2 (.inl rfl))
  mem q := by
    rw [List.mem_append, List.mem_singleton, h.mem, mem_take_succ hk, mem_take_succ hj, he]
    constructor
    · rintro ((h | h) | h)
      · exact .inl (.inl h)
      · exact .inr (.inl h)
      · exact .inl (.inr h)
    · rintro ((h | h) | (h | h))
      · exact .inl (.inl h)
      · exact .inr h
      · exact .inl (.inr h)
      · exact .inr h
  la q hq x hx := by
    rcases List.mem_append.1 hq with hq | hq
    · exact h.la q hq x ((drop_head hk).2 (.inr hx))
    · rw [List.mem_singleton] at hq
      subst hq
      exact ha.head_lt hk hx
  lb q hq y hy := by
    rcases List.mem_append.1 hq with hq | hq
    · exact h.lb q hq y ((drop_head hj).2 (.inr hy))
    · rw [List.mem_singleton] at hq
      subst hq
      rw [← he]
      exact hb.head_lt hj hy
  len := by have := h.len; simp; omega

theorem UN.end_ (h : UN a b k j o) (hb : Srt b) (hk : a.length ≤ k) : o ++ b.drop j = mkP (a ++ b) := by
  refine mkP_eq ?_ fun q => ?_
  · unfold Srt
    rw [List.pairwise_append]
    exact ⟨h.srt, hb.drop j, h.lb⟩
  · have e := h.mem q
    rw [List.take_of_length_le hk] at e
    have e2 : q ∈ b ↔ q ∈ b.take j ∨ q ∈ b.drop j := by rw [← List.mem_append, List.take_append_drop]
    rw [List.mem_append, List.mem_append, e, e2, or_assoc]

theorem gt_all (hb : Srt b) (hj : j < b.length) {p : Pr} (h1 : ltP b[j] p = false) (h2 : ¬ b[j] = p) : ∀ y ∈ b.drop j, ltP p y = true := fun y hy => by
  have h3 : ltP p b[j] = true := ltP_of_le h1 fun e => h2 e.symm
  rcases (drop_head hj).1 hy with e | e
  · rw [e]; exact h3
  · exact ltP_trans h3 (hb.head_lt hj e)

end

/-- An own list, and beside it a block with the pair at hand. -/
structure PX (w : World) (v : Value) (l : List Pr) (pb : Nat) (x1 x2 : Int) (wr : World) : Prop where
  pl : PL w v l wr
  row : Row wr pb 112 #[.int .i64 x1, .int .i64 x2]
  ne : ∀ k, v.ownBlock = some k → k ≠ pb

section
variable {w wr w' : World} {v v' : Value} {l : List Pr} {pb : Nat} {x1 x2 : Int}

theorem PX.of (h : PL w v l wr) (x1 x2 : Int) : PX w v l wr.heap.size x1 x2 (wr.alloc (prObj x1 x2)) :=
  ⟨h.alloc _, Row.new wr _ _, fun k hk e => by have := (ownS_lt h.own k hk).2; omega⟩

theorem PX.grew (h : PX w v l pb x1 x2 wr) (hg : Grew wr w') : PX w v l pb x1 x2 w' := ⟨h.pl.grew hg, hg.row h.row, h.ne⟩

theorem PX.push (h : PX w v l pb x1 x2 wr) (y1 y2 : Int) {n : Nat} (hn : n = l.length)
    (ho : w'.ownsRow w.heap.size 112 2 v' (n + 1) (prs l ++ prs [(y1, y2)])) (hg : (wr.alloc (prObj y1 y2)).grownBy w' v.ownBlock) (hv : v'.ownBlock = v.ownBlock ∨ v'.ownBlock = some (wr.heap.size + 1)) : PX w v' (l ++ [(y1, y2)]) pb x1 x2 w' := by
  have hlt := h.row.lt
  refine ⟨h.pl.push y1 y2 hn ho hg, ?_, fun k hk e => ?_⟩
  · refine (hg.block pb (by simp; omega) fun e => h.ne pb e.symm rfl).trans (h.row.alloc _)
  · rcases hv with hv | hv
    · exact h.ne k (hv.symm.trans hk) e
    · rw [hv] at hk
      simp at hk
      omega

theorem PX.cells (h : PX w v l pb x1 x2 wr) : wr.cell? ⟨pb, 0, none⟩ = some (.int .i64 x1) ∧ wr.cell? ⟨pb, 1, none⟩ = some (.int .i64 x2) := ⟨h.row.cell 0, h.row.cell 1⟩

end

theorem make_pr (n : Nat) (hn : n ≤ 4000000) : ∃ Z : Array Value, Z.size = n * 2 ∧ ∀ w, (Instr.makeSlice 110 (.int .i64 0) (.int .i64 (n : Int))).run Try.prog w = .ok (.slice (some ⟨w.heap.size, 0, none⟩) 0 n) (w.alloc (.cells Z 112)) := by
  obtain ⟨i, hi, hz, hs, hb⟩ := info_pr
  refine ⟨madeCells (Value.agg #[.int .i64 0, .int .i64 0]).cells (n * i.size), ?_, fun w => ?_⟩
  · rw [size_madeCells, hs]
  · have := run_make (P := Try.prog) w _ _ i _ Try.underlying110 hi hz .i64 .i64 0 n (by decide) (by omega) (by rw [hb]; omega) (by omega)
    simpa using this

theorem PL.make (w : World) {n : Nat} {Z : Array Value} (hZ : Z.size = n * 2) (hn : n ≤ 4000000) : PL w (.slice (some ⟨w.heap.size, 0, none⟩) 0 n) [] (w.alloc (.cells Z 112)) :=
  ⟨⟨by simp [prs], .inr ⟨w.heap.size, n, Z, rfl, Nat.le_refl _, heap_alloc_new w _, Nat.zero_le _, by unfold maxLen; omega, hZ, by simp [prs]⟩⟩, (Below.refl _ _).alloc (Nat.le_refl _) _⟩

end Go.Proofs.Ytkapmfopfddmbaa

/-
  DropV and DropL of the program.
-/
namespace Go.Proofs.Ytkapmfopfddmbaa
open Go.RowKit
set_option linter.unusedVariables false

end Go.Proofs.Ytkapmfopfddmbaa

/-
  The contracts of layer 11 in the form that the statements' walks use: lists that are seen, by name.
-/
namespace Go.Proofs.Ytkapmfopfddmbaa
open Go.RowKit
set_option linter.unusedVariables false

/-- A list of pairs that is seen, and is short. -/
structure LS (w : World) (A : Option Addr) (n c : Nat) (l : List Pr) : Prop where
  len : l.length = n
  cap : n ≤ c
  cmx : c ≤ maxLen
  see : Sees w w.heap.size A (prs l)
  sm : n ≤ 1000

/-- A new list of pairs. -/
def PV (w : World) (l : List Pr) (e : Ending) (w' : World) : Prop := ∃ A n c, e = .returned (.slice A n c) ∧ PL w (.slice A n c) l w' ∧ LS w' A n c l

theorem PL.clone {w w' : World} {v : Value} {l : List Pr} {m : Nat} (hm : l.length = m)
    (ho : w'.ownsRow w.heap.size 112 2 v m (prs l)) (hg : (w.alloc (.cells #[] 112)).grownBy w' (Value.slice (some ⟨w.heap.size, 0, none⟩) 0 0).ownBlock) : PL w v l w' := by
  refine ⟨by rw [hm]; exact ho, ((Below.refl _ _).alloc (Nat.le_refl _) _).grown hg (by simp) (fun k hk => by simp [Value.ownBlock] at hk; omega)⟩

theorem PL.join {w wr w' : World} {v v' : Value} {l r : List Pr} {n m : Nat} (h : PL w v l wr) (hn : l.length = n) (hm : r.length = m)
    (ho : w'.ownsRow w.heap.size 112 2 v' (n + m) (prs l ++ prs r)) (hg : wr.grownBy w' v.ownBlock) : PL w v' (l ++ r) w' := by
  subst hn hm
  exact ⟨by rw [prs_append, List.length_append]; exact ho, h.blw.grown hg h.blw.size fun k hk => (ownS_lt h.own k hk).1⟩

section
variable {w w' : World} {A A' : Option Addr} {n c m c' : Nat} {l r : List Pr}

theorem LS.below (h : LS w A n c l) (hb : Below w.heap.size w w') : LS w' A n c l := ⟨h.len, h.cap, h.cmx, (h.see.below hb).more hb.size, h.sm⟩

theorem LS.big (h : LS w A n c l) : l.length ≤ 1000000 := by have := h.len; have := h.sm; omega

theorem LS.ml (h : LS w A n c l) : l.length ≤ maxLen := by have := h.big; unfold maxLen; omega

theorem PL.ls (h : PL w (.slice A n c) l w') (hs : l.length ≤ 1000) : LS w' A n c l := by
  obtain ⟨A1, c1, e, h1, h2⟩ := h.slice
  injection e with e1 e2 e3
  subst e1 e2 e3
  exact ⟨rfl, h1, h2, h.sees, hs⟩

theorem PV.of {e : Ending} (hs : l.length ≤ 1000) (h : ∃ v, e = .returned v ∧ PL w v l w') : PV w l e w' := by
  obtain ⟨v, rfl, hP⟩ := h
  obtain ⟨A1, c1, rfl, h1, h2⟩ := hP.slice
  exact ⟨A1, l.length, c1, rfl, hP, hP.ls hs⟩

theorem LS.one (w : World) (x1 x2 : Int) : LS (w.alloc (prObj x1 x2)) (some ⟨w.heap.size, 0, none⟩) 1 1 [(x1, x2)] :=
  ⟨rfl, Nat.le_refl _, by unfold maxLen; omega, by have := new_sees w x1 x2; rwa [show (w.alloc (prObj x1 x2)).heap.size = w.heap.size + 1 by simp], by omega⟩

theorem LS.two (w : World) (x1 x2 y1 y2 : Int) : LS (w.alloc (.cells #[.int .i64 x1, .int .i64 x2, .int .i64 y1, .int .i64 y2] 112)) (some ⟨w.heap.size, 0, none⟩) 2 2 [(x1, x2), (y1, y2)] :=
  ⟨rfl, Nat.le_refl _, by unfold maxLen; omega, by have := sees_new w #[.int .i64 x1, .int .i64 x2, .int .i64 y1, .int .i64 y2] 112; rwa [show (w.alloc (.cells #[.int .i64 x1, .int .i64 x2, .int .i64 y1, .int .i64 y2] 112)).heap.size = w.heap.size + 1 by simp], by omega⟩

theorem LS.three (w : World) (x1 x2 y1 y2 z1 z2 : Int) : LS (w.alloc (.cells #[.int .i64 x1, .int .i64 x2, .int .i64 y1, .int .i64 y2, .int .i64 z1, .int .i64 z2] 112)) (some ⟨w.heap.size, 0, none⟩) 3 3 [(x1, x2), (y1, y2), (z1, z2)] :=
  ⟨rfl, Nat.le_refl _, by unfold maxLen; omega, by have := sees_new w #[.int .i64 x1, .int .i64 x2, .int .i64 y1, .int .i64 y2, .int .i64 z1, .int .i64 z2] 112; rwa [show (w.alloc (.cells #[.int .i64 x1, .int .i64 x2, .int .i64 y1, .int .i64 y2, .int .i64 z1, .int .i64 z2] 112)).heap.size = w.heap.size + 1 by simp], by omega⟩

theorem LS.nil (w : World) : LS w none 0 0 [] := ⟨rfl, Nat.le_refl _, Nat.zero_le _, Sees.nil, by omega⟩

/-- Whether all pairs of a are in b. -/
def subP (a b : List Pr) : Bool := decide (∀ x ∈ a, x ∈ b)

theorem subP_iff {a b : List Pr} : subP a b = true ↔ ∀ x ∈ a, x ∈ b := by simp [subP]

end

end Go.Proofs.Ytkapmfopfddmbaa
