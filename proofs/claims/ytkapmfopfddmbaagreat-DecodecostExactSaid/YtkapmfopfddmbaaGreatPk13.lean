import Derived.Test.YtkapmfopfddmbaaGreatPk12
import Derived.Test.YtkapmfopfddmbaaGreatPk2

/-
  Lists of pairs that a call owns.
-/
namespace Go.Proofs.YtkapmfopfddmbaaGreat
open Go.RowKit
set_option linter.unusedVariables false

theorem infoPr : (Tryz.prog.info? 86).map (fun i => (i.zero, i.size, i.bytes)) = some (some (.agg #[.int .i64 0, .int .i64 0]), 2, 16) := by kernel_rfl

theorem info_pr : ∃ i : TypeInfo, Tryz.prog.info? 86 = some i ∧ i.zero = some (.agg #[.int .i64 0, .int .i64 0]) ∧ i.size = 2 ∧ i.bytes = 16 := by
  have h := infoPr
  rcases hi : Tryz.prog.info? 86 with _ | i
  · rw [hi] at h; simp at h
  · rw [hi] at h
    simp only [Option.map_some, Option.some.injEq, Prod.mk.injEq] at h
    exact ⟨i, rfl, h.1, h.2.1, h.2.2⟩

/-- The value v is a list of pairs in memory of its own, new to the world w; of what was there nothing has turned. -/
structure PL (w : World) (v : Value) (l : List Pr) (wr : World) : Prop where
  own : wr.ownsRow w.heap.size 86 2 v l.length (prs l)
  blw : Below w.heap.size w wr


/-- The block of a pair that is appended. -/
abbrev prObj (x1 x2 : Int) : Obj := .cells #[.int .i64 x1, .int .i64 x2] 86

section
variable {w wr w' : World} {v : Value} {l : List Pr}

theorem PL.nil (w : World) : PL w (.slice none 0 0) [] w := ⟨⟨by simp [prs], .inl ⟨rfl, rfl⟩⟩, Below.refl _ _⟩

theorem PL.next (h : PL w v l wr) (hb : Below wr.heap.size wr w') : PL w v l w' :=
  ⟨(Mods.of_below (S := No) hb).ownS h.own fun _ _ hs => hs.elim, h.blw.trans (hb.mono h.blw.size)⟩

theorem PL.grew (h : PL w v l wr) (hb : Grew wr w') : PL w v l w' := h.next hb.below

theorem PL.alloc (h : PL w v l wr) (o : Obj) : PL w v l (wr.alloc o) := h.next ((Below.refl _ _).alloc (Nat.le_refl _) o)

theorem PL.slice (h : PL w v l wr) : ∃ A c, v = .slice A l.length c ∧ l.length ≤ c ∧ c ≤ maxLen := ownS_slice h.own

theorem PL.sees {A : Option Addr} {n c : Nat} (h : PL w (.slice A n c) l wr) : Sees wr wr.heap.size A (prs l) := by
  obtain ⟨A', c', e, _⟩ := h.slice
  injection e with e1 e2 e3
  subst e2
  exact sees_own h.own

theorem PL.base {w0 : World} (h : PL w v l wr) (hb : Below w0.heap.size w0 w) : PL w0 v l wr :=
  ⟨ownS_base h.own hb.size, hb.trans (h.blw.mono hb.size)⟩

theorem PL.push (h : PL w v l wr) (x1 x2 : Int) {v' : Value} {n : Nat} (hn : n = l.length)
    (ho : w'.ownsRow w.heap.size 86 2 v' (n + 1) (prs l ++ prs [(x1, x2)])) (hg : (wr.alloc (prObj x1 x2)).grownBy w' v.ownBlock) : PL w v' (l ++ [(x1, x2)]) w' := by
  subst hn
  refine ⟨by rw [prs_append, List.length_append]; exact ho, ?_⟩
  have hb : Below w.heap.size w (wr.alloc (prObj x1 x2)) := (h.alloc _).blw
  exact hb.grown hg hb.size fun k hk => (ownS_lt h.own k hk).1

theorem new_sees (wr : World) (x1 x2 : Int) : Sees (wr.alloc (prObj x1 x2)) (wr.heap.size + 1) (some ⟨wr.heap.size, 0, none⟩) (prs [(x1, x2)]) := sees_new wr #[.int .i64 x1, .int .i64 x2] 86

end

end Go.Proofs.YtkapmfopfddmbaaGreat

/-
  The reference's Add and Make.
-/
namespace Go.Proofs.YtkapmfopfddmbaaGreat
open Go.RowKit
set_option linter.unusedVariables false

theorem stA_t (p : Pr) (o : List Pr) (x : Pr) (he : x = p) : stA p (true, o) x = (true, o) := by simp [stA, he]

theorem stA_tn (p : Pr) (o : List Pr) (x : Pr) (he : ¬ x = p) : stA p (true, o) x = (true, o ++ [x]) := by simp [stA, he]

theorem stA_f (p : Pr) (o : List Pr) (x : Pr) (hl : ltP x p = true) (he : x = p) : stA p (false, o) x = (false, o) := by subst he; simp [stA, hl]

theorem stA_fn (p : Pr) (o : List Pr) (x : Pr) (hl : ltP x p = true) (he : ¬ x = p) : stA p (false, o) x = (false, o ++ [x]) := by simp [stA, hl, he]

theorem stA_p (p : Pr) (o : List Pr) (x : Pr) (hl : ltP x p = false) (he : x = p) : stA p (false, o) x = (true, o ++ [p]) := by subst he; simp [stA, hl]

theorem stA_pn (p : Pr) (o : List Pr) (x : Pr) (hl : ltP x p = false) (he : ¬ x = p) : stA p (false, o) x = (true, o ++ [p] ++ [x]) := by simp [stA, hl, he]

theorem stA_len (p : Pr) (s : Bool × List Pr) (x : Pr) : (stA p s x).2.length ≤ s.2.length + 2 := by
  unfold stA
  dsimp only
  split <;> split <;> simp <;> omega

theorem foA_len (p : Pr) : ∀ (k : Nat) (l : List Pr), l.length = k → (foA p l).2.length ≤ 2 * k
  | 0, l, hk => by
    obtain rfl := List.eq_nil_of_length_eq_zero hk
    simp [foA]
  | k + 1, l, hk => by
    rcases List.eq_nil_or_concat l with rfl | ⟨r, x, rfl⟩
    · simp at hk
    rw [List.concat_eq_append] at *
    rw [foA_snoc]
    have := stA_len p (foA p r) x
    have := foA_len p k r (by simpa using hk)
    omega

theorem foA_take (p : Pr) {l : List Pr} {k : Nat} (hk : k < l.length) : foA p (l.take (k + 1)) = stA p (foA p (l.take k)) l[k] := by
  rw [List.take_succ_eq_append_getElem hk, foA_snoc]

end Go.Proofs.YtkapmfopfddmbaaGreat

/-
  Missing of both.
-/
namespace Go.Proofs.YtkapmfopfddmbaaGreat
open Go.RowKit
set_option linter.unusedVariables false

/-- What Missing returns. -/
def mres : Option Pr → Value
  | some p => .tuple #[.agg #[.int .i64 p.1, .int .i64 p.2], .bool true]
  | none => .tuple #[.agg #[.int .i64 0, .int .i64 0], .bool false]

end Go.Proofs.YtkapmfopfddmbaaGreat
