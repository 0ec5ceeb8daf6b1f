/-
  Union and Add of the program.
-/
import Derived.Test.YthehcdajedaefaaPsMis2
import Derived.Laws.MakeOwn
namespace Go.Proofs.Ythehcdajedaefaa
open Go.RowKit
set_option linter.unusedVariables false

/-- What Union has made of the first k pairs of a and the first j of b. -/
structure UN (a b : List Pr) (k j : Nat) (o : List Pr) : Prop where
  srt : Srt o
  mem : ∀ q, q ∈ o ↔ q ∈ a.take k ∨ q ∈ b.take j
  la : ∀ q ∈ o, ∀ x ∈ a.drop k, ltP q x = true
  lb : ∀ q ∈ o, ∀ y ∈ b.drop j, ltP q y = true
  len : o.length ≤ k + j

theorem UN.start (a b : List Pr) : UN a b 0 0 [] := ⟨Srt.nil, fun q => by simp, fun q h => by simp at h, fun q h => by simp at h, Nat.zero_le _⟩

section
variable {a b o : List Pr} {k j : Nat}

theorem UN.stb (h : UN a b k j o) (ha : Srt a) (hb : Srt b) (hk : k < a.length) (hj : j < b.length) (hlt : ltP b[j] a[k] = true) : UN a b k (j + 1) (o ++ [b[j]]) where
  srt := Srt.snoc h.srt fun y hy => h.lb y hy _ ((drop_head hj).2 (.inl rfl))
  mem q := by rw [List.mem_append, List.mem_singleton, h.mem, mem_take_succ hj, or_assoc]
  la q hq x hx := by
    rcases List.mem_append.1 hq with hq | hq
    · exact h.la q hq x hx
    · rw [List.mem_singleton] at hq
      subst hq
      rcases (drop_head hk).1 hx with e | e
      · rw [e]; exact hlt
      · exact ltP_trans hlt (ha.head_lt hk e)
  lb q hq y hy := by
    rcases List.mem_append.1 hq with hq | hq
    · exact h.lb q hq y ((drop_head hj).2 (.inr hy))
    · rw [List.mem_singleton] at hq
      subst hq
      exact hb.head_lt hj hy
  len := by have := h.len; simp; omega

theorem UN.sta (h : UN a b k j o) (ha : Srt a) (hk : k < a.length) (hlt : ∀ y ∈ b.drop j, ltP a[k] y = true) : UN a b (k + 1) j (o ++ [a[k]]) where
  srt := Srt.snoc h.srt fun y hy => h.la y hy _ ((drop_head hk).2 (.inl rfl))
  mem q := by
    rw [List.mem_append, List.mem_singleton, h.mem, mem_take_succ hk, or_assoc, or_assoc, or_comm (a := q ∈ b.take j)]
  la q hq x hx := by
    rcases List.mem_append.1 hq with hq | hq
    · exact h.la q hq x ((drop_head hk).2 (.inr hx))
    · rw [List.mem_singleton] at hq
      subst hq
      exact ha.head_lt hk hx
  lb q hq y hy := by
    rcases List.mem_append.1 hq with hq | hq
    · exact h.lb q hq y hy
    · rw [List.mem_singleton] at hq
      subst hq
      exact hlt y hy
  len := by have := h.len; simp; omega

theorem UN.stab (h : UN a b k j o) (ha : Srt a) (hb : Srt b) (hk : k < a.length) (hj : j < b.length) (he : b[j] = a[k]) : UN a b (k + 1) (j + 1) (o ++ [a[k]]) where
  srt := Srt.snoc h.srt fun y hy => h.la y hy _ ((drop_head hk).2 (.inl rfl))
  mem q := by
    rw [List.mem_append, List.mem_singleton, h.mem, mem_take_succ hk, mem_take_succ hj, he]
    constructor
    · rintro ((h | h) | h)
      · exact .inl (.inl h)
      · exact .inr (.inl h)
      · exact .inl (.inr h)
    · rintro ((h | h) | (h | h))
      · exact .inl (.inl h)
      · exact .inr h
      · exact .inl (.inr h)
      · exact .inr h
  la q hq x hx := by
    rcases List.mem_append.1 hq with hq | hq
    · exact h.la q hq x ((drop_head hk).2 (.inr hx))
    · rw [List.mem_singleton] at hq
      subst hq
      exact ha.head_lt hk hx
  lb q hq y hy := by
    rcases List.mem_append.1 hq with hq | hq
    · exact h.lb q hq y ((drop_head hj).2 (.inr hy))
    · rw [List.mem_singleton] at hq
      subst hq
      rw [← he]
      exact hb.head_lt hj hy
  len := by have := h.len; simp; omega

theorem UN.end_ (h : UN a b k j o) (hb : Srt b) (hk : a.length ≤ k) : o ++ b.drop j = mkP (a ++ b) := by
  refine mkP_eq ?_ fun q => ?_
  · unfold Srt
    rw [List.pairwise_append]
    exact ⟨h.srt, hb.drop j, h.lb⟩
  · have e := h.mem q
    rw [List.take_of_length_le hk] at e
    have e2 : q ∈ b ↔ q ∈ b.take j ∨ q ∈ b.drop j := by rw [← List.mem_append, List.take_append_drop]
    rw [List.mem_append, List.mem_append, e, e2, or_assoc]

theorem gt_all (hb : Srt b) (hj : j < b.length) {p : Pr} (h1 : ltP b[j] p = false) (h2 : ¬ b[j] = p) : ∀ y ∈ b.drop j, ltP p y = true := fun y hy => by
  have h3 : ltP p b[j] = true := ltP_of_le h1 fun e => h2 e.symm
  rcases (drop_head hj).1 hy with e | e
  · rw [e]; exact h3
  · exact ltP_trans h3 (hb.head_lt hj e)

end

/-- An own list, and beside it a block with the pair at hand. -/
structure PX (w : World) (v : Value) (l : List Pr) (pb : Nat) (x1 x2 : Int) (wr : World) : Prop where
  pl : PL w v l wr
  row : Row wr pb 52 #[.int .i64 x1, .int .i64 x2]
  ne : ∀ k, v.ownBlock = some k → k ≠ pb

section
variable {w wr w' : World} {v v' : Value} {l : List Pr} {pb : Nat} {x1 x2 : Int}

theorem PX.of (h : PL w v l wr) (x1 x2 : Int) : PX w v l wr.heap.size x1 x2 (wr.alloc (prObj x1 x2)) :=
  ⟨h.alloc _, Row.new wr _ _, fun k hk e => by have := (ownS_lt h.own k hk).2; omega⟩

theorem PX.grew (h : PX w v l pb x1 x2 wr) (hg : Grew wr w') : PX w v l pb x1 x2 w' := ⟨h.pl.grew hg, hg.row h.row, h.ne⟩

theorem PX.push (h : PX w v l pb x1 x2 wr) (y1 y2 : Int) {n : Nat} (hn : n = l.length)
    (ho : w'.ownsRow w.heap.size 52 2 v' (n + 1) (prs l ++ prs [(y1, y2)])) (hg : (wr.alloc (prObj y1 y2)).grownBy w' v.ownBlock) (hv : v'.ownBlock = v.ownBlock ∨ v'.ownBlock = some (wr.heap.size + 1)) : PX w v' (l ++ [(y1, y2)]) pb x1 x2 w' := by
  have hlt := h.row.lt
  refine ⟨h.pl.push y1 y2 hn ho hg, ?_, fun k hk e => ?_⟩
  · refine (hg.block pb (by simp; omega) fun e => h.ne pb e.symm rfl).trans (h.row.alloc _)
  · rcases hv with hv | hv
    · exact h.ne k (hv.symm.trans hk) e
    · rw [hv] at hk
      simp at hk
      omega

theorem PX.cells (h : PX w v l pb x1 x2 wr) : wr.cell? ⟨pb, 0, none⟩ = some (.int .i64 x1) ∧ wr.cell? ⟨pb, 1, none⟩ = some (.int .i64 x2) := ⟨h.row.cell 0, h.row.cell 1⟩

end

theorem make_pr (n : Nat) (hn : n ≤ 4000000) : ∃ Z : Array Value, Z.size = n * 2 ∧ ∀ w, (Instr.makeSlice 53 (.int .i64 0) (.int .i64 (n : Int))).run Try.prog w = .ok (.slice (some ⟨w.heap.size, 0, none⟩) 0 n) (w.alloc (.cells Z 52)) := by
  obtain ⟨i, hi, hz, hs, hb⟩ := info_pr
  refine ⟨madeCells (Value.agg #[.int .i64 0, .int .i64 0]).cells (n * i.size), ?_, fun w => ?_⟩
  · rw [size_madeCells, hs]
  · have := run_make (P := Try.prog) w _ _ i _ Try.underlying53 hi hz .i64 .i64 0 n (by decide) (by omega) (by rw [hb]; omega) (by omega)
    simpa using this

theorem PL.make (w : World) {n : Nat} {Z : Array Value} (hZ : Z.size = n * 2) (hn : n ≤ 4000000) : PL w (.slice (some ⟨w.heap.size, 0, none⟩) 0 n) [] (w.alloc (.cells Z 52)) :=
  ⟨⟨by simp [prs], .inr ⟨w.heap.size, n, Z, rfl, Nat.le_refl _, heap_alloc_new w _, Nat.zero_le _, by unfold maxLen; omega, hZ, by simp [prs]⟩⟩, (Below.refl _ _).alloc (Nat.le_refl _) _⟩

end Go.Proofs.Ythehcdajedaefaa
