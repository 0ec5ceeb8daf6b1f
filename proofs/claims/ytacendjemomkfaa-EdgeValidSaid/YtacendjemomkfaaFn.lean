/-
  Instructions, terminators, blocks and functions of source code as data, and what memory shows of them.
-/
import Derived.Test.YtacendjemomkfaaBase
namespace Go.Proofs.Ytacendjemomkfaa
open Go.RowKit
set_option linter.unusedVariables false

structure In where
  op : Int
  d : Int
  a : Int
  b : Int
  imm : Int
structure Tm where
  kind : Int
  a : Int
  to : Int
  el : Int
structure Blk where
  code : List In
  term : Tm

def In.cells (x : In) : List Value := [.int .i64 x.op, .int .i64 x.d, .int .i64 x.a, .int .i64 x.b, .int .i64 x.imm]

/-- An instruction's five cells. -/
structure In.At (w : World) (b o : Nat) (x : In) : Prop where
  c0 : w.cell? ⟨b, o, none⟩ = some (.int .i64 x.op)
  c1 : w.cell? ⟨b, o + 1, none⟩ = some (.int .i64 x.d)
  c2 : w.cell? ⟨b, o + 2, none⟩ = some (.int .i64 x.a)
  c3 : w.cell? ⟨b, o + 3, none⟩ = some (.int .i64 x.b)
  c4 : w.cell? ⟨b, o + 4, none⟩ = some (.int .i64 x.imm)
/-- The slice address A shows these instructions, below block B. -/
def InsAt (w : World) (B : Nat) (A : Option Addr) (xs : List In) : Prop :=
  xs ≠ [] → ∃ b o, A = some ⟨b, o, none⟩ ∧ b < B ∧ ∀ (i : Nat) (x : In), xs[i]? = some x → x.At w b (o + i * 5)
/-- A block's five cells, and its instructions. -/
structure Blk.At (w : World) (B : Nat) (b o : Nat) (x : Blk) : Prop where
  code : ∃ A c, w.cell? ⟨b, o, none⟩ = some (.slice A x.code.length c) ∧ x.code.length ≤ c ∧ c ≤ maxLen ∧ InsAt w B A x.code
  t0 : w.cell? ⟨b, o + 1, none⟩ = some (.int .i64 x.term.kind)
  t1 : w.cell? ⟨b, o + 2, none⟩ = some (.int .i64 x.term.a)
  t2 : w.cell? ⟨b, o + 3, none⟩ = some (.int .i64 x.term.to)
  t3 : w.cell? ⟨b, o + 4, none⟩ = some (.int .i64 x.term.el)
/-- The slice address A shows these blocks, below block B. -/
def BlksAt (w : World) (B : Nat) (A : Option Addr) (xs : List Blk) : Prop :=
  xs ≠ [] → ∃ b o, A = some ⟨b, o, none⟩ ∧ b < B ∧ ∀ (i : Nat) (x : Blk), xs[i]? = some x → x.At w B b (o + i * 5)

section
variable {w w' : World} {B B' : Nat} {A : Option Addr} {b o : Nat}
theorem In.At.keep {x : In} (h : x.At w b o) (hb : b < B) (hk : ∀ p : Addr, p.block < B → w'.cell? p = w.cell? p) : x.At w' b o :=
  ⟨(hk ⟨b, _, none⟩ hb).trans h.c0, (hk ⟨b, _, none⟩ hb).trans h.c1, (hk ⟨b, _, none⟩ hb).trans h.c2, (hk ⟨b, _, none⟩ hb).trans h.c3, (hk ⟨b, _, none⟩ hb).trans h.c4⟩
theorem InsAt.nil : InsAt w B A [] := fun h => absurd rfl h
theorem InsAt.keep {xs : List In} (h : InsAt w B A xs) (hk : ∀ p : Addr, p.block < B → w'.cell? p = w.cell? p) : InsAt w' B A xs := fun hn => by
  obtain ⟨b, o, e, hb, hc⟩ := h hn
  exact ⟨b, o, e, hb, fun i x hx => (hc i x hx).keep hb hk⟩
theorem InsAt.more {xs : List In} (h : InsAt w B A xs) (hB : B ≤ B') : InsAt w B' A xs := fun hn => by
  obtain ⟨b, o, e, hb, hc⟩ := h hn
  exact ⟨b, o, e, by omega, hc⟩
theorem InsAt.at_ {xs : List In} (h : InsAt w B A xs) {i : Nat} (hi : i < xs.length) : ∃ b o, A = some ⟨b, o, none⟩ ∧ b < B ∧ xs[i].At w b (o + i * 5) := by
  obtain ⟨b, o, e, hb, hc⟩ := h (by intro e; subst e; simp at hi)
  exact ⟨b, o, e, hb, hc i _ (List.getElem?_eq_getElem hi)⟩
theorem InsAt.below {xs : List In} (h : InsAt w B A xs) (hb : Below B w w') : InsAt w' B A xs := h.keep fun _ hp => hb.cell hp
theorem Blk.At.keep {x : Blk} (h : x.At w B b o) (hb : b < B) (hk : ∀ p : Addr, p.block < B → w'.cell? p = w.cell? p) : x.At w' B b o where
  code := by
    obtain ⟨A, c, h1, h2, h3, h4⟩ := h.code
    exact ⟨A, c, (hk ⟨b, _, none⟩ hb).trans h1, h2, h3, h4.keep hk⟩
  t0 := (hk ⟨b, _, none⟩ hb).trans h.t0
  t1 := (hk ⟨b, _, none⟩ hb).trans h.t1
  t2 := (hk ⟨b, _, none⟩ hb).trans h.t2
  t3 := (hk ⟨b, _, none⟩ hb).trans h.t3
theorem Blk.At.more {x : Blk} (h : x.At w B b o) (hB : B ≤ B') : x.At w B' b o := { h with
  code := by
    obtain ⟨A, c, h1, h2, h3, h4⟩ := h.code
    exact ⟨A, c, h1, h2, h3, h4.more hB⟩ }
theorem BlksAt.nil : BlksAt w B A [] := fun h => absurd rfl h
theorem BlksAt.keep {xs : List Blk} (h : BlksAt w B A xs) (hk : ∀ p : Addr, p.block < B → w'.cell? p = w.cell? p) : BlksAt w' B A xs := fun hn => by
  obtain ⟨b, o, e, hb, hc⟩ := h hn
  exact ⟨b, o, e, hb, fun i x hx => (hc i x hx).keep hb hk⟩
theorem BlksAt.more {xs : List Blk} (h : BlksAt w B A xs) (hB : B ≤ B') : BlksAt w B' A xs := fun hn => by
  obtain ⟨b, o, e, hb, hc⟩ := h hn
  exact ⟨b, o, e, by omega, fun i x hx => (hc i x hx).more hB⟩
theorem BlksAt.below {xs : List Blk} (h : BlksAt w B A xs) (hb : Below B w w') : BlksAt w' B A xs := h.keep fun _ hp => hb.cell hp
theorem BlksAt.drewN {xs : List Blk} (h : BlksAt w B A xs) (n : Nat) : BlksAt (w.drewN n) B A xs := h.keep fun _ _ => rfl
theorem BlksAt.alloc {xs : List Blk} (h : BlksAt w B A xs) (hB : B ≤ w.heap.size) (o : Obj) : BlksAt (w.alloc o) B A xs := h.keep fun p hp => World.cell?_alloc_lt w o p (by omega)
theorem BlksAt.at_ {xs : List Blk} (h : BlksAt w B A xs) {i : Nat} (hi : i < xs.length) : ∃ b o, A = some ⟨b, o, none⟩ ∧ b < B ∧ xs[i].At w B b (o + i * 5) := by
  obtain ⟨b, o, e, hb, hc⟩ := h (by intro e; subst e; simp at hi)
  exact ⟨b, o, e, hb, hc i _ (List.getElem?_eq_getElem hi)⟩
end

/-- The slice of a new block shows the block's cells. -/
theorem sees_new (w : World) (cs : Array Value) (t : TypeId) : Sees (w.alloc (.cells cs t)) (w.heap.size + 1) (some ⟨w.heap.size, 0, none⟩) cs.toList := fun _ =>
  ⟨w.heap.size, 0, rfl, Nat.lt_succ_self _, fun i u hu => by
    rw [Nat.zero_add, cell_of_row _ _ i cs t (0, 0) (heap_alloc_new w _)]
    simpa using hu⟩

/-- A list of records of s cells each, laid end to end. -/
theorem flat_get {α : Type} (f : α → List Value) (s : Nat) (hs : ∀ x, (f x).length = s) : ∀ (l : List α) (k : Nat) (x : α), l[k]? = some x → ∀ j u, (f x)[j]? = some u → (l.flatMap f)[k * s + j]? = some u
  | [], k, x, h, _, _, _ => by simp at h
  | y :: r, 0, x, h, j, u, hu => by
    simp only [List.getElem?_cons_zero, Option.some.injEq] at h
    subst h
    have hj : j < (f y).length := (List.getElem?_eq_some_iff.1 hu).1
    rw [List.flatMap_cons, Nat.zero_mul, Nat.zero_add, List.getElem?_append_left hj]
    exact hu
  | y :: r, k + 1, x, h, j, u, hu => by
    rw [List.getElem?_cons_succ] at h
    have := flat_get f s hs r k x h j u hu
    rw [List.flatMap_cons, List.getElem?_append_right (by rw [hs, Nat.succ_mul]; omega), hs, Nat.succ_mul, show k * s + s + j - s = k * s + j by omega]
    exact this

end Go.Proofs.Ytacendjemomkfaa
