/-
  The contracts of layer 11 in the form that the statements' walks use: lists that are seen, by name.
-/
import Derived.Test.YthehcdajedaefaaPsRadd
import Derived.Test.YthehcdajedaefaaPsDrop
import Derived.Test.YthehcdajedaefaaPsMis2
namespace Go.Proofs.Ythehcdajedaefaa
open Go.RowKit
set_option linter.unusedVariables false

/-- A list of pairs that is seen, and is short. -/
structure LS (w : World) (A : Option Addr) (n c : Nat) (l : List Pr) : Prop where
  len : l.length = n
  cap : n ≤ c
  cmx : c ≤ maxLen
  see : Sees w w.heap.size A (prs l)
  sm : n ≤ 1000

/-- A new list of pairs. -/
def PV (w : World) (l : List Pr) (e : Ending) (w' : World) : Prop := ∃ A n c, e = .returned (.slice A n c) ∧ PL w (.slice A n c) l w' ∧ LS w' A n c l

theorem PL.clone {w w' : World} {v : Value} {l : List Pr} {m : Nat} (hm : l.length = m)
    (ho : w'.ownsRow w.heap.size 52 2 v m (prs l)) (hg : (w.alloc (.cells #[] 52)).grownBy w' (Value.slice (some ⟨w.heap.size, 0, none⟩) 0 0).ownBlock) : PL w v l w' := by
  refine ⟨by rw [hm]; exact ho, ((Below.refl _ _).alloc (Nat.le_refl _) _).grown hg (by simp) (fun k hk => by simp [Value.ownBlock] at hk; omega)⟩

theorem PL.join {w wr w' : World} {v v' : Value} {l r : List Pr} {n m : Nat} (h : PL w v l wr) (hn : l.length = n) (hm : r.length = m)
    (ho : w'.ownsRow w.heap.size 52 2 v' (n + m) (prs l ++ prs r)) (hg : wr.grownBy w' v.ownBlock) : PL w v' (l ++ r) w' := by
  subst hn hm
  exact ⟨by rw [prs_append, List.length_append]; exact ho, h.blw.grown hg h.blw.size fun k hk => (ownS_lt h.own k hk).1⟩

section
variable {w w' : World} {A A' : Option Addr} {n c m c' : Nat} {l r : List Pr}

theorem LS.below (h : LS w A n c l) (hb : Below w.heap.size w w') : LS w' A n c l := ⟨h.len, h.cap, h.cmx, (h.see.below hb).more hb.size, h.sm⟩

theorem LS.big (h : LS w A n c l) : l.length ≤ 1000000 := by have := h.len; have := h.sm; omega

theorem LS.ml (h : LS w A n c l) : l.length ≤ maxLen := by have := h.big; unfold maxLen; omega

theorem PL.ls (h : PL w (.slice A n c) l w') (hs : l.length ≤ 1000) : LS w' A n c l := by
  obtain ⟨A1, c1, e, h1, h2⟩ := h.slice
  injection e with e1 e2 e3
  subst e1 e2 e3
  exact ⟨rfl, h1, h2, h.sees, hs⟩

theorem PV.of {e : Ending} (hs : l.length ≤ 1000) (h : ∃ v, e = .returned v ∧ PL w v l w') : PV w l e w' := by
  obtain ⟨v, rfl, hP⟩ := h
  obtain ⟨A1, c1, rfl, h1, h2⟩ := hP.slice
  exact ⟨A1, l.length, c1, rfl, hP, hP.ls hs⟩

theorem LS.one (w : World) (x1 x2 : Int) : LS (w.alloc (prObj x1 x2)) (some ⟨w.heap.size, 0, none⟩) 1 1 [(x1, x2)] :=
  ⟨rfl, Nat.le_refl _, by unfold maxLen; omega, by have := new_sees w x1 x2; rwa [show (w.alloc (prObj x1 x2)).heap.size = w.heap.size + 1 by simp], by omega⟩

theorem LS.two (w : World) (x1 x2 y1 y2 : Int) : LS (w.alloc (.cells #[.int .i64 x1, .int .i64 x2, .int .i64 y1, .int .i64 y2] 52)) (some ⟨w.heap.size, 0, none⟩) 2 2 [(x1, x2), (y1, y2)] :=
  ⟨rfl, Nat.le_refl _, by unfold maxLen; omega, by have := sees_new w #[.int .i64 x1, .int .i64 x2, .int .i64 y1, .int .i64 y2] 52; rwa [show (w.alloc (.cells #[.int .i64 x1, .int .i64 x2, .int .i64 y1, .int .i64 y2] 52)).heap.size = w.heap.size + 1 by simp], by omega⟩

theorem LS.three (w : World) (x1 x2 y1 y2 z1 z2 : Int) : LS (w.alloc (.cells #[.int .i64 x1, .int .i64 x2, .int .i64 y1, .int .i64 y2, .int .i64 z1, .int .i64 z2] 52)) (some ⟨w.heap.size, 0, none⟩) 3 3 [(x1, x2), (y1, y2), (z1, z2)] :=
  ⟨rfl, Nat.le_refl _, by unfold maxLen; omega, by have := sees_new w #[.int .i64 x1, .int .i64 x2, .int .i64 y1, .int .i64 y2, .int .i64 z1, .int .i64 z2] 52; rwa [show (w.alloc (.cells #[.int .i64 x1, .int .i64 x2, .int .i64 y1, .int .i64 y2, .int .i64 z1, .int .i64 z2] 52)).heap.size = w.heap.size + 1 by simp], by omega⟩

theorem LS.nil (w : World) : LS w none 0 0 [] := ⟨rfl, Nat.le_refl _, Nat.zero_le _, Sees.nil, by omega⟩

theorem same_ls (h : LS w A n c l) (k : LS w A' m c' r) : Calls Try.prog 28 #[.slice A n c, .slice A' m c'] w fun e w' => e = .returned (.bool (decide (l = r))) ∧ Grew w w' := by
  obtain ⟨rfl, _, _, h4, _⟩ := id h
  obtain ⟨rfl, _, _, k4, _⟩ := id k
  exact prsame_any w.heap.size A A' l r c c' w h4 k4 h.ml k.ml

theorem same_lsB (h : LS w A n c l) (k : LS w A' m c' r) : Calls Try.prog 28 #[.slice A n c, .slice A' m c'] w fun e w' => e = .returned (.bool (decide (l = r))) ∧ Below w.heap.size w w' :=
  (same_ls h k).mono fun _ _ ⟨a, b⟩ => ⟨a, b.below⟩

/-- Whether all pairs of a are in b. -/
def subP (a b : List Pr) : Bool := decide (∀ x ∈ a, x ∈ b)

theorem subP_iff {a b : List Pr} : subP a b = true ↔ ∀ x ∈ a, x ∈ b := by simp [subP]

end

end Go.Proofs.Ythehcdajedaefaa
