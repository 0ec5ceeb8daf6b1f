/-
  Machine instructions, blocks and functions of allocated code as data, and what memory shows of them.
-/
import Derived.Test.YtimmnnadoeagfaaFn
import Derived.Test.YtimmnnadoeagfaaLocIn
namespace Go.Proofs.Ytimmnnadoeagfaa
open Go.RowKit
set_option linter.unusedVariables false

structure Mi where
  op : Int
  d : Int
  a : Int
  b : Int
  imm : Int
  dst : Int
  src : Int
structure MBlk where
  code : List Mi
  term : Tm

def Mi.cells (x : Mi) : List Value := [.int .i64 x.op, .int .i64 x.d, .int .i64 x.a, .int .i64 x.b, .int .i64 x.imm, .int .i64 x.dst, .int .i64 x.src]
def Mi.ins (x : Mi) : In := ⟨x.op, x.d, x.a, x.b, x.imm⟩
def Mi.Ok (x : Mi) : Prop := Fits x.dst ∧ Fits x.src

/-- An instruction's seven cells; its locations fit. -/
structure Mi.At (w : World) (b o : Nat) (x : Mi) : Prop where
  ok : x.Ok
  c0 : w.cell? ⟨b, o, none⟩ = some (.int .i64 x.op)
  c1 : w.cell? ⟨b, o + 1, none⟩ = some (.int .i64 x.d)
  c2 : w.cell? ⟨b, o + 2, none⟩ = some (.int .i64 x.a)
  c3 : w.cell? ⟨b, o + 3, none⟩ = some (.int .i64 x.b)
  c4 : w.cell? ⟨b, o + 4, none⟩ = some (.int .i64 x.imm)
  c5 : w.cell? ⟨b, o + 5, none⟩ = some (.int .i64 x.dst)
  c6 : w.cell? ⟨b, o + 6, none⟩ = some (.int .i64 x.src)
/-- The slice address A shows these instructions, below block B. -/
def MisAt (w : World) (B : Nat) (A : Option Addr) (xs : List Mi) : Prop :=
  xs ≠ [] → ∃ b o, A = some ⟨b, o, none⟩ ∧ b < B ∧ ∀ (i : Nat) (x : Mi), xs[i]? = some x → x.At w b (o + i * 7)
/-- A block's five cells, and its instructions. -/
structure MBlk.At (w : World) (B : Nat) (b o : Nat) (x : MBlk) : Prop where
  code : ∃ A c, w.cell? ⟨b, o, none⟩ = some (.slice A x.code.length c) ∧ x.code.length ≤ c ∧ c ≤ maxLen ∧ MisAt w B A x.code
  t0 : w.cell? ⟨b, o + 1, none⟩ = some (.int .i64 x.term.kind)
  t1 : w.cell? ⟨b, o + 2, none⟩ = some (.int .i64 x.term.a)
  t2 : w.cell? ⟨b, o + 3, none⟩ = some (.int .i64 x.term.to)
  t3 : w.cell? ⟨b, o + 4, none⟩ = some (.int .i64 x.term.el)
/-- The slice address A shows these blocks, below block B. -/
def MBlksAt (w : World) (B : Nat) (A : Option Addr) (xs : List MBlk) : Prop :=
  xs ≠ [] → ∃ b o, A = some ⟨b, o, none⟩ ∧ b < B ∧ ∀ (i : Nat) (x : MBlk), xs[i]? = some x → x.At w B b (o + i * 5)

section
variable {w w' : World} {B B' : Nat} {A : Option Addr} {b o : Nat}
theorem Mi.At.keep {x : Mi} (h : x.At w b o) (hb : b < B) (hk : ∀ p : Addr, p.block < B → w'.cell? p = w.cell? p) : x.At w' b o :=
  ⟨h.ok, (hk ⟨b, _, none⟩ hb).trans h.c0, (hk ⟨b, _, none⟩ hb).trans h.c1, (hk ⟨b, _, none⟩ hb).trans h.c2, (hk ⟨b, _, none⟩ hb).trans h.c3, (hk ⟨b, _, none⟩ hb).trans h.c4, (hk ⟨b, _, none⟩ hb).trans h.c5, (hk ⟨b, _, none⟩ hb).trans h.c6⟩
theorem MisAt.nil : MisAt w B A [] := fun h => absurd rfl h
theorem MisAt.keep {xs : List Mi} (h : MisAt w B A xs) (hk : ∀ p : Addr, p.block < B → w'.cell? p = w.cell? p) : MisAt w' B A xs := fun hn => by
  obtain ⟨b, o, e, hb, hc⟩ := h hn
  exact ⟨b, o, e, hb, fun i x hx => (hc i x hx).keep hb hk⟩
theorem MisAt.more {xs : List Mi} (h : MisAt w B A xs) (hB : B ≤ B') : MisAt w B' A xs := fun hn => by
  obtain ⟨b, o, e, hb, hc⟩ := h hn
  exact ⟨b, o, e, by omega, hc⟩
theorem MisAt.at_ {xs : List Mi} (h : MisAt w B A xs) {i : Nat} (hi : i < xs.length) : ∃ b o, A = some ⟨b, o, none⟩ ∧ b < B ∧ xs[i].At w b (o + i * 7) := by
  obtain ⟨b, o, e, hb, hc⟩ := h (by intro e; subst e; simp at hi)
  exact ⟨b, o, e, hb, hc i _ (List.getElem?_eq_getElem hi)⟩
theorem MisAt.below {xs : List Mi} (h : MisAt w B A xs) (hb : Below B w w') : MisAt w' B A xs := h.keep fun _ hp => hb.cell hp
theorem MisAt.alloc {xs : List Mi} (h : MisAt w B A xs) (hB : B ≤ w.heap.size) (o : Obj) : MisAt (w.alloc o) B A xs := h.keep fun p hp => World.cell?_alloc_lt w o p (by omega)
theorem MisAt.take {xs : List Mi} (h : MisAt w B A xs) (k : Nat) : MisAt w B A (xs.take k) := fun hn => by
  obtain ⟨b, o, e, hb, hc⟩ := h (by intro e; subst e; simp at hn)
  refine ⟨b, o, e, hb, fun i x hx => hc i x ?_⟩
  rw [List.getElem?_take] at hx
  split at hx
  · exact hx
  · cases hx
/-- The cut of a slice from k on: its address as the model writes it. -/
theorem MisAt.drop {xs : List Mi} {b o : Nat} (h : MisAt w B (some ⟨b, o, none⟩) xs) (k : Nat) : MisAt w B (some ⟨b, o + k * 7, none⟩) (xs.drop k) := fun hn => by
  obtain ⟨b', o', e, hb, hc⟩ := h (by intro e; subst e; simp at hn)
  injection e with e
  injection e with e1 e2
  subst e1
  subst e2
  refine ⟨b, o + k * 7, rfl, hb, fun i x hx => ?_⟩
  rw [List.getElem?_drop] at hx
  have := hc _ x hx
  rwa [show o + (k + i) * 7 = o + k * 7 + i * 7 by omega] at this
theorem MBlk.At.keep {x : MBlk} (h : x.At w B b o) (hb : b < B) (hk : ∀ p : Addr, p.block < B → w'.cell? p = w.cell? p) : x.At w' B b o where
  code := by
    obtain ⟨A, c, h1, h2, h3, h4⟩ := h.code
    exact ⟨A, c, (hk ⟨b, _, none⟩ hb).trans h1, h2, h3, h4.keep hk⟩
  t0 := (hk ⟨b, _, none⟩ hb).trans h.t0
  t1 := (hk ⟨b, _, none⟩ hb).trans h.t1
  t2 := (hk ⟨b, _, none⟩ hb).trans h.t2
  t3 := (hk ⟨b, _, none⟩ hb).trans h.t3
theorem MBlk.At.more {x : MBlk} (h : x.At w B b o) (hB : B ≤ B') : x.At w B' b o := { h with
  code := by
    obtain ⟨A, c, h1, h2, h3, h4⟩ := h.code
    exact ⟨A, c, h1, h2, h3, h4.more hB⟩ }
theorem MBlksAt.nil : MBlksAt w B A [] := fun h => absurd rfl h
theorem MBlksAt.keep {xs : List MBlk} (h : MBlksAt w B A xs) (hk : ∀ p : Addr, p.block < B → w'.cell? p = w.cell? p) : MBlksAt w' B A xs := fun hn => by
  obtain ⟨b, o, e, hb, hc⟩ := h hn
  exact ⟨b, o, e, hb, fun i x hx => (hc i x hx).keep hb hk⟩
theorem MBlksAt.more {xs : List MBlk} (h : MBlksAt w B A xs) (hB : B ≤ B') : MBlksAt w B' A xs := fun hn => by
  obtain ⟨b, o, e, hb, hc⟩ := h hn
  exact ⟨b, o, e, by omega, fun i x hx => (hc i x hx).more hB⟩
theorem MBlksAt.below {xs : List MBlk} (h : MBlksAt w B A xs) (hb : Below B w w') : MBlksAt w' B A xs := h.keep fun _ hp => hb.cell hp
theorem MBlksAt.drewN {xs : List MBlk} (h : MBlksAt w B A xs) (n : Nat) : MBlksAt (w.drewN n) B A xs := h.keep fun _ _ => rfl
theorem MBlksAt.alloc {xs : List MBlk} (h : MBlksAt w B A xs) (hB : B ≤ w.heap.size) (o : Obj) : MBlksAt (w.alloc o) B A xs := h.keep fun p hp => World.cell?_alloc_lt w o p (by omega)
theorem MBlksAt.at_ {xs : List MBlk} (h : MBlksAt w B A xs) {i : Nat} (hi : i < xs.length) : ∃ b o, A = some ⟨b, o, none⟩ ∧ b < B ∧ xs[i].At w B b (o + i * 5) := by
  obtain ⟨b, o, e, hb, hc⟩ := h (by intro e; subst e; simp at hi)
  exact ⟨b, o, e, hb, hc i _ (List.getElem?_eq_getElem hi)⟩
end

end Go.Proofs.Ytimmnnadoeagfaa
