import Derived.Test.YtncigbpeempnfaaRows
import Derived.WalkKit
import Derived.WalkSpells
import Derived.WalkLawsBesides
import Derived.Lib.Hide
import Derived.Deep.AppendLies
import Derived.Maps.AppendAt
import Derived.Deep.Slices
import Derived.Deep.Fields
import Derived.Deep.QuietTactic
import Derived.BigQuiet
import Derived.Lib.LaidTab
import Derived.LaidMore
import Derived.OpenShut
import Derived.LoopTactic
import Derived.Below
import Derived.Deep.RegionHeld3
import Derived.Deep.RegionHeldLaw
import Derived.Deep.MidRow

/-
  Words for memory, used by all later files of this seat: a slice whose elements read as a given list of cells, and bytes as cells.
-/
namespace Go.Proofs.Ytncigbpeempnfaa
open Go.RowKit

theorem ret1 {k : IntKind} {a b : Int} (h : a = b) : Ending.returned (.int k a) = .returned (.int k b) := by rw [h]

theorem retb {p : Prop} [Decidable p] (h : p) : Ending.returned (.bool (decide p)) = .returned (.bool true) := by rw [decide_eq_true h]

theorem tup3 {k1 k2 k3 : IntKind} {a b c a' b' c' : Int} (h1 : a = a') (h2 : b = b') (h3 : c = c') :
    Ending.returned (.tuple #[.int k1 a, .int k2 b, .int k3 c]) = .returned (.tuple #[.int k1 a', .int k2 b', .int k3 c']) := by rw [h1, h2, h3]

theorem blw_drewN {B : Nat} {a w : World} (h : Below B a w) (n : Nat) : Below B a (w.drewN n) := ⟨h.os, h.tape, h.output, h.size, h.block⟩

/-- A step from a world that has drawn is a step from the world itself. -/
theorem below_un {B B' : Nat} {a w : World} (h : Below B a.drew w) (hB : B' ≤ B) : Below B' a w := ⟨h.os, h.tape, h.output, h.size, fun k hk => h.block k (Nat.lt_of_lt_of_le hk hB)⟩

theorem below_unN {B B' : Nat} {a w : World} {n : Nat} (h : Below B (a.drewN n) w) (hB : B' ≤ B) : Below B' a w := ⟨h.os, h.tape, h.output, h.size, fun k hk => h.block k (Nat.lt_of_lt_of_le hk hB)⟩

/-- Bytes as cells. -/
def bts (l : List Nat) : List Value := l.map fun (x : Nat) => Value.int .u8 (x : Int)

def Byt (l : List Nat) : Prop := ∀ x ∈ l, x < 256

theorem bts_length (l : List Nat) : (bts l).length = l.length := by simp [bts]

theorem bts_get (l : List Nat) (i : Nat) : (bts l)[i]? = (l[i]?).map fun (x : Nat) => Value.int .u8 (x : Int) := by simp [bts]

theorem bts_append (l r : List Nat) : bts (l ++ r) = bts l ++ bts r := by simp [bts]

theorem bts_one (l : List Nat) : ∀ u ∈ bts l, u.oneCell' = true := by
  intro u hu
  obtain ⟨_, _, rfl⟩ := List.mem_map.1 hu
  rfl

theorem one_new {w : World} {e : TypeId} {x : Nat} {z : Int} (h : z = x) : ∀ j u, (bts [x])[j]? = some u →
    (w.alloc (.cells #[.int .u8 z] e)).cell? ((⟨w.heap.size, 0, none⟩ : Addr).add j) = some u := by
  subst h
  exact cell_one_new w _ e

theorem bts_ne {l : List Nat} {k : Nat} (h : k < l.length) : bts l ≠ [] := by
  intro e
  have := congrArg List.length e
  rw [bts_length] at this
  simp only [List.length_nil] at this
  omega

/-- The slice address A shows the cells xs, below block B. -/
def Sees (w : World) (B : Nat) (A : Option Addr) (xs : List Value) : Prop :=
  xs ≠ [] → ∃ b o, A = some ⟨b, o, none⟩ ∧ b < B ∧ ∀ i u, xs[i]? = some u → w.cell? ⟨b, o + i, none⟩ = some u

section
variable {w w' : World} {B B' : Nat} {A : Option Addr} {xs : List Value}

theorem Sees.nil : Sees w B A [] := fun h => absurd rfl h

theorem Sees.keep (h : Sees w B A xs) (hk : ∀ p : Addr, p.block < B → w'.cell? p = w.cell? p) : Sees w' B A xs := fun hn => by
  obtain ⟨b, o, e, hb, hc⟩ := h hn
  exact ⟨b, o, e, hb, fun i u hu => (hk _ hb).trans (hc i u hu)⟩

theorem Sees.more (h : Sees w B A xs) (hB : B ≤ B') : Sees w B' A xs := fun hn => by
  obtain ⟨b, o, e, hb, hc⟩ := h hn
  exact ⟨b, o, e, by omega, hc⟩

theorem Sees.below (h : Sees w B A xs) (hb : Below B w w') : Sees w' B A xs := h.keep fun _ hp => hb.cell hp

theorem Sees.drew (h : Sees w B A xs) : Sees w.drew B A xs := h

theorem Sees.drewN (h : Sees w B A xs) (k : Nat) : Sees (w.drewN k) B A xs := h

theorem Sees.alloc (h : Sees w B A xs) (hB : B ≤ w.heap.size) (o : Obj) : Sees (w.alloc o) B A xs := h.keep fun p hp => World.cell?_alloc_lt w o p (by omega)

theorem Sees.setCell (h : Sees w B A xs) {p : Addr} (hB : B ≤ p.block) (u : Value) : Sees (w.setCell p u) B A xs :=
  h.keep fun q hq => World.cell?_setCell_other w p q u (fun e => by subst e; omega)

theorem Sees.of_own {base n c : Nat} {e : TypeId} (h : w.ownsRow base e 1 (.slice A n c) n xs) : Sees w w.heap.size A xs := fun hn => by
  rcases h.2 with ⟨h0, h1⟩ | ⟨g, cap, cur, hv, _, hg, _⟩
  · exact absurd (List.eq_nil_of_length_eq_zero (by have := h.1; omega)) hn
  · injection hv with hA
    subst hA
    refine ⟨g, 0, rfl, (Array.getElem?_eq_some_iff.1 hg).1, fun i u hu => ?_⟩
    have := h.cells (g := g) rfl i u hu
    simpa [Addr.add_lit] using this

theorem own_cap {base n c : Nat} {e : TypeId} {a : Addr} (h : w.ownsRow base e 1 (.slice (some a) n c) n xs) : n ≤ c ∧ c ≤ maxLen := by
  rcases h.2 with ⟨h0, _⟩ | ⟨g, cap, cur, hv, _, _, h1, h2, _⟩
  · cases h0
  · injection hv with _ _ hc
    subst hc
    exact ⟨h1, h2⟩

/-- The cut `s[lo:hi]` of a slice that is seen: its address as the model writes it. -/
theorem Sees.drop {k cap : Nat} (h : Sees w B A xs) (hc : xs.length ≤ cap) :
    Sees w B (if cap = k then A else A.map (·.add k)) (xs.drop k) := fun hn => by
  have hl : k < xs.length := by
    rcases Nat.lt_or_ge k xs.length with h1 | h1
    · exact h1
    · exact absurd (List.drop_eq_nil_of_le h1) hn
  obtain ⟨b, o, rfl, hb, hcell⟩ := h (by intro e; subst e; simp at hl)
  rw [if_neg (by omega)]
  refine ⟨b, o + k, by simp [Addr.add_lit], hb, fun i u hu => ?_⟩
  rw [List.getElem?_drop] at hu
  have := hcell _ u hu
  rwa [← Nat.add_assoc] at this

theorem Sees.take {k : Nat} (h : Sees w B A xs) : Sees w B A (xs.take k) := fun hn => by
  obtain ⟨b, o, e, hb, hc⟩ := h (by intro e; subst e; simp at hn)
  refine ⟨b, o, e, hb, fun i u hu => hc i u ?_⟩
  rw [List.getElem?_take] at hu
  split at hu
  · exact hu
  · cases hu

end

/-- A slice of integers as the statements' frame hands it over: nil, or the numbers zs up to the capacity. -/
def IsRow (k : IntKind) (w : World) (a : Option Addr) (len cap : Nat) (zs : List Int) : Prop :=
  (a = none ∧ len = 0 ∧ cap = 0 ∧ zs = []) ∨
  ∃ x, a = some x ∧ len ≤ cap ∧ cap ≤ maxLen ∧ zs.length = cap ∧ (∀ i, i < zs.length → w.cell? (x.add i) = some (.int k (zs.getD i 0))) ∧ ∀ n ∈ zs, (Lit.int k n).wf = true

/-- A byte slice that came in: its elements as a list. -/
theorem IsRow.bytes {w : World} {a : Option Addr} {len cap : Nat} {zs : List Int} (h : IsRow .u8 w a len cap zs) :
    ∃ l : List Nat, l.length = len ∧ Byt l ∧ Sees w w.heap.size a (bts l) ∧ len ≤ cap ∧ cap ≤ maxLen := by
  rcases h with ⟨rfl, rfl, rfl, rfl⟩ | ⟨x, rfl, h1, h2, h3, h4, h5⟩
  · exact ⟨[], rfl, by simp [Byt], Sees.nil, Nat.le_refl _, Nat.zero_le _⟩
  · have hw : ∀ n ∈ zs, 0 ≤ n ∧ n < 256 := fun n hn => by
      have := h5 n hn
      simp [Lit.wf, IntKind.min, IntKind.max, IntKind.signed, IntKind.bits] at this
      omega
    refine ⟨(zs.take len).map Int.toNat, by simp; omega, ?_, fun hn => ?_, h1, h2⟩
    · intro y hy
      obtain ⟨n, hn, rfl⟩ := List.mem_map.1 hy
      have := hw n (List.mem_of_mem_take hn)
      omega
    · have hl : 0 < len := by
        rcases Nat.eq_zero_or_pos len with h0 | h0
        · subst h0; simp [bts] at hn
        · exact h0
      have hc0 := h4 0 (by omega)
      obtain ⟨b, o, s⟩ := x
      have hs : s = none := by simpa [Addr.add] using World.cell?_spot hc0
      subst hs
      refine ⟨b, o, rfl, World.block_lt_of_cell? w _ (by simpa [Addr.add] using hc0), fun i u hu => ?_⟩
      rw [bts_get] at hu
      have hi : i < len := by
        rcases Nat.lt_or_ge i len with h0 | h0
        · exact h0
        · rw [List.getElem?_eq_none (by simp; omega)] at hu; cases hu
      have hz : i < zs.length := by omega
      have := h4 i hz
      rw [Addr.add_lit] at this
      rw [this, ← hu]
      have hb := hw zs[i] (List.getElem_mem hz)
      simp [hi, hz, List.getD]
      omega

theorem u64_of_wf {x : Int} (h : (Lit.int .u64 x).wf = true) : 0 ≤ x ∧ x ≤ 18446744073709551615 := by
  simp [Lit.wf, IntKind.min, IntKind.max, IntKind.signed, IntKind.bits] at h
  omega

theorem u8_of_wf {x : Int} (h : (Lit.int .u8 x).wf = true) : 0 ≤ x ∧ x ≤ 255 := by
  simp [Lit.wf, IntKind.min, IntKind.max, IntKind.signed, IntKind.bits] at h
  omega

theorem i64_of_wf {x : Int} (h : (Lit.int .i64 x).wf = true) : -9223372036854775808 ≤ x ∧ x ≤ 9223372036854775807 := by
  simp [Lit.wf, IntKind.min, IntKind.max, IntKind.signed, IntKind.bits] at h
  omega

end Go.Proofs.Ytncigbpeempnfaa

/-
  Instructions, terminators, blocks and functions of source code as data, and what memory shows of them.
-/
namespace Go.Proofs.Ytncigbpeempnfaa
open Go.RowKit
set_option linter.unusedVariables false

structure In where
  op : Int
  d : Int
  a : Int
  b : Int
  imm : Int

structure Tm where
  kind : Int
  a : Int
  to : Int
  el : Int

structure Blk where
  code : List In
  term : Tm

def In.cells (x : In) : List Value := [.int .i64 x.op, .int .i64 x.d, .int .i64 x.a, .int .i64 x.b, .int .i64 x.imm]

/-- An instruction's five cells. -/
structure In.At (w : World) (b o : Nat) (x : In) : Prop where
  c0 : w.cell? ⟨b, o, none⟩ = some (.int .i64 x.op)
  c1 : w.cell? ⟨b, o + 1, none⟩ = some (.int .i64 x.d)
  c2 : w.cell? ⟨b, o + 2, none⟩ = some (.int .i64 x.a)
  c3 : w.cell? ⟨b, o + 3, none⟩ = some (.int .i64 x.b)
  c4 : w.cell? ⟨b, o + 4, none⟩ = some (.int .i64 x.imm)

/-- The slice address A shows these instructions, below block B. -/
def InsAt (w : World) (B : Nat) (A : Option Addr) (xs : List In) : Prop :=
  xs ≠ [] → ∃ b o, A = some ⟨b, o, none⟩ ∧ b < B ∧ ∀ (i : Nat) (x : In), xs[i]? = some x → x.At w b (o + i * 5)

/-- A block's five cells, and its instructions. -/
structure Blk.At (w : World) (B : Nat) (b o : Nat) (x : Blk) : Prop where
  code : ∃ A c, w.cell? ⟨b, o, none⟩ = some (.slice A x.code.length c) ∧ x.code.length ≤ c ∧ c ≤ maxLen ∧ InsAt w B A x.code
  t0 : w.cell? ⟨b, o + 1, none⟩ = some (.int .i64 x.term.kind)
  t1 : w.cell? ⟨b, o + 2, none⟩ = some (.int .i64 x.term.a)
  t2 : w.cell? ⟨b, o + 3, none⟩ = some (.int .i64 x.term.to)
  t3 : w.cell? ⟨b, o + 4, none⟩ = some (.int .i64 x.term.el)

/-- The slice address A shows these blocks, below block B. -/
def BlksAt (w : World) (B : Nat) (A : Option Addr) (xs : List Blk) : Prop :=
  xs ≠ [] → ∃ b o, A = some ⟨b, o, none⟩ ∧ b < B ∧ ∀ (i : Nat) (x : Blk), xs[i]? = some x → x.At w B b (o + i * 5)

section
variable {w w' : World} {B B' : Nat} {A : Option Addr} {b o : Nat}

theorem In.At.keep {x : In} (h : x.At w b o) (hb : b < B) (hk : ∀ p : Addr, p.block < B → w'.cell? p = w.cell? p) : x.At w' b o :=
  ⟨(hk ⟨b, _, none⟩ hb).trans h.c0, (hk ⟨b, _, none⟩ hb).trans h.c1, (hk ⟨b, _, none⟩ hb).trans h.c2, (hk ⟨b, _, none⟩ hb).trans h.c3, (hk ⟨b, _, none⟩ hb).trans h.c4⟩

theorem InsAt.nil : InsAt w B A [] := fun h => absurd rfl h

theorem InsAt.keep {xs : List In} (h : InsAt w B A xs) (hk : ∀ p : Addr, p.block < B → w'.cell? p = w.cell? p) : InsAt w' B A xs := fun hn => by
  obtain ⟨b, o, e, hb, hc⟩ := h hn
  exact ⟨b, o, e, hb, fun i x hx => (hc i x hx).keep hb hk⟩

theorem InsAt.more {xs : List In} (h : InsAt w B A xs) (hB : B ≤ B') : InsAt w B' A xs := fun hn => by
  obtain ⟨b, o, e, hb, hc⟩ := h hn
  exact ⟨b, o, e, by omega, hc⟩

theorem InsAt.at_ {xs : List In} (h : InsAt w B A xs) {i : Nat} (hi : i < xs.length) : ∃ b o, A = some ⟨b, o, none⟩ ∧ b < B ∧ xs[i].At w b (o + i * 5) := by
  obtain ⟨b, o, e, hb, hc⟩ := h (by intro e; subst e; simp at hi)
  exact ⟨b, o, e, hb, hc i _ (List.getElem?_eq_getElem hi)⟩

theorem InsAt.below {xs : List In} (h : InsAt w B A xs) (hb : Below B w w') : InsAt w' B A xs := h.keep fun _ hp => hb.cell hp

theorem Blk.At.keep {x : Blk} (h : x.At w B b o) (hb : b < B) (hk : ∀ p : Addr, p.block < B → w'.cell? p = w.cell? p) : x.At w' B b o where
  code := by
    obtain ⟨A, c, h1, h2, h3, h4⟩ := h.code
    exact ⟨A, c, (hk ⟨b, _, none⟩ hb).trans h1, h2, h3, h4.keep hk⟩
  t0 := (hk ⟨b, _, none⟩ hb).trans h.t0
  t1 := (hk ⟨b, _, none⟩ hb).trans h.t1
  t2 := (hk ⟨b, _, none⟩ hb).trans h.t2
  t3 := (hk ⟨b, _, none⟩ hb).trans h.t3

theorem Blk.At.more {x : Blk} (h : x.At w B b o) (hB : B ≤ B') : x.At w B' b o := { h with
  code := by
    obtain ⟨A, c, h1, h2, h3, h4⟩ := h.code
    exact ⟨A, c, h1, h2, h3, h4.more hB⟩ }

theorem BlksAt.nil : BlksAt w B A [] := fun h => absurd rfl h

theorem BlksAt.keep {xs : List Blk} (h : BlksAt w B A xs) (hk : ∀ p : Addr, p.block < B → w'.cell? p = w.cell? p) : BlksAt w' B A xs := fun hn => by
  obtain ⟨b, o, e, hb, hc⟩ := h hn
  exact ⟨b, o, e, hb, fun i x hx => (hc i x hx).keep hb hk⟩

theorem BlksAt.more {xs : List Blk} (h : BlksAt w B A xs) (hB : B ≤ B') : BlksAt w B' A xs := fun hn => by
  obtain ⟨b, o, e, hb, hc⟩ := h hn
  exact ⟨b, o, e, by omega, fun i x hx => (hc i x hx).more hB⟩

theorem BlksAt.below {xs : List Blk} (h : BlksAt w B A xs) (hb : Below B w w') : BlksAt w' B A xs := h.keep fun _ hp => hb.cell hp

theorem BlksAt.drewN {xs : List Blk} (h : BlksAt w B A xs) (n : Nat) : BlksAt (w.drewN n) B A xs := h.keep fun _ _ => rfl

theorem BlksAt.alloc {xs : List Blk} (h : BlksAt w B A xs) (hB : B ≤ w.heap.size) (o : Obj) : BlksAt (w.alloc o) B A xs := h.keep fun p hp => World.cell?_alloc_lt w o p (by omega)

theorem BlksAt.at_ {xs : List Blk} (h : BlksAt w B A xs) {i : Nat} (hi : i < xs.length) : ∃ b o, A = some ⟨b, o, none⟩ ∧ b < B ∧ xs[i].At w B b (o + i * 5) := by
  obtain ⟨b, o, e, hb, hc⟩ := h (by intro e; subst e; simp at hi)
  exact ⟨b, o, e, hb, hc i _ (List.getElem?_eq_getElem hi)⟩

end

/-- The slice of a new block shows the block's cells. -/
theorem sees_new (w : World) (cs : Array Value) (t : TypeId) : Sees (w.alloc (.cells cs t)) (w.heap.size + 1) (some ⟨w.heap.size, 0, none⟩) cs.toList := fun _ =>
  ⟨w.heap.size, 0, rfl, Nat.lt_succ_self _, fun i u hu => by
    rw [Nat.zero_add, cell_of_row _ _ i cs t (0, 0) (heap_alloc_new w _)]
    simpa using hu⟩

/-- A list of records of s cells each, laid end to end. -/
theorem flat_get {α : Type} (f : α → List Value) (s : Nat) (hs : ∀ x, (f x).length = s) : ∀ (l : List α) (k : Nat) (x : α), l[k]? = some x → ∀ j u, (f x)[j]? = some u → (l.flatMap f)[k * s + j]? = some u
  | [], k, x, h, _, _, _ => by simp at h
  | y :: r, 0, x, h, j, u, hu => by
    simp only [List.getElem?_cons_zero, Option.some.injEq] at h
    subst h
    have hj : j < (f y).length := (List.getElem?_eq_some_iff.1 hu).1
    rw [List.flatMap_cons, Nat.zero_mul, Nat.zero_add, List.getElem?_append_left hj]
    exact hu
  | y :: r, k + 1, x, h, j, u, hu => by
    rw [List.getElem?_cons_succ] at h
    have := flat_get f s hs r k x h j u hu
    rw [List.flatMap_cons, List.getElem?_append_right (by rw [hs, Nat.succ_mul]; omega), hs, Nat.succ_mul, show k * s + s + j - s = k * s + j by omega]
    exact this

end Go.Proofs.Ytncigbpeempnfaa

/-
  Reading structs and slices that came in; terminators.
-/
namespace Go.Proofs.Ytncigbpeempnfaa
open Go.RowKit Go.ChangeShapes Go.WideShapes Go.Deep
set_option linter.unusedVariables false

def I64 (x : Int) : Prop := (Lit.int .i64 x).wf = true

def Tm.Wf (t : Tm) : Prop := I64 t.kind ∧ I64 t.a ∧ I64 t.to ∧ I64 t.el


section
variable {H : Type} {enc : TypeId × Value → H} {P : Program} {w : World} {base : Nat} {spare : Nat → Bool} {held : Bool}

/-- A one-cell field of an integer's type. -/
theorem fld_int {ft : TypeId} {n k i : Nat} {cs : List Value} {xs : List (DataW H × List MemPlace)} (hu : P.underlying ft = some (.int .i64)) (hc : P.cellsOf ft = 1)
    (hx : DataW.trod enc P w base spare held n ft ((cs.drop k).take (P.cellsOf ft)) = xs[i]?) (hi : i < xs.length) (hk : k < cs.length) : ∃ v : Int, cs[k]? = some (.int .i64 v) ∧ I64 v := by
  rw [hc, List.drop_eq_getElem_cons hk, List.take_succ_cons, List.take_zero, List.getElem?_eq_getElem hi] at hx
  obtain ⟨v, e, _, hw⟩ := DataW.trod_int hu hx
  injection e with e _
  exact ⟨v, by rw [List.getElem?_eq_getElem hk, e], hw⟩

theorem fld_cell {ft : TypeId} {n k i : Nat} {cs : List Value} {xs : List (DataW H × List MemPlace)} (hc : P.cellsOf ft = 1)
    (hx : DataW.trod enc P w base spare held n ft ((cs.drop k).take (P.cellsOf ft)) = xs[i]?) (hi : i < xs.length) (hk : k < cs.length) : ∃ v y, cs[k]? = some v ∧ DataW.trod enc P w base spare held n ft [v] = some y := by
  rw [hc, List.drop_eq_getElem_cons hk, List.take_succ_cons, List.take_zero, List.getElem?_eq_getElem hi] at hx
  exact ⟨cs[k], _, List.getElem?_eq_getElem hk, hx⟩

/-- A slice that came in: nil, or its elements' cells, each with its reading. -/
theorem trod_elems {t e : TypeId} {s : Nat} {fuel : Nat} {a : Option Addr} {len cap : Nat} {x : DataW H × List MemPlace} (ht : P.underlying t = some (.slice e)) (hC : P.cellsOf e = s) (h0 : 0 < s)
    (h : DataW.trod enc P w base spare held fuel t [.slice a len cap] = some x) :
    len ≤ cap ∧ cap ≤ maxLen ∧ ∀ i, i < len → ∃ b o n cs y, a = some ⟨b, o, none⟩ ∧ b < w.heap.size ∧ cs.length = s ∧ (∀ j, j < s → w.cell? ⟨b, o + (i * s + j), none⟩ = cs[j]?) ∧ DataW.trod enc P w base spare held n e cs = some y := by
  rcases open_slice ht h with ⟨h0, _⟩ | ⟨ad, l, c, m, n, D, Pl, hcs, _, hl, hm, hmm, _, hi⟩
  · injection h0 with h0 _
    injection h0 with h1 h2 h3
    subst h2
    subst h3
    exact ⟨Nat.le_refl _, Nat.zero_le _, fun i hi => by omega⟩
  · injection hcs with h0 _
    injection h0 with h1 h2 h3
    subst h1
    subst h2
    subst h3
    have hlm : len ≤ m := by rw [hmm]; split <;> omega
    refine ⟨hl, hm, fun i hil => ?_⟩
    obtain ⟨c0, hc0, _⟩ := hi 0 (by omega)
    rw [hC] at hc0
    obtain ⟨_, hcl0, hat0⟩ := World.cells?_some hc0
    have hz := hat0 0 (by omega)
    rw [Go.Deep.add_add, Nat.zero_mul, List.getElem?_eq_getElem (by omega)] at hz
    obtain ⟨b, o, sp⟩ := ad
    have hs : sp = none := by simpa [Addr.add] using World.cell?_spot hz
    subst hs
    obtain ⟨cs', hc, htr⟩ := hi i (by omega)
    rw [hC] at hc
    obtain ⟨_, hcl, hat⟩ := World.cells?_some hc
    refine ⟨b, o, n, cs', _, rfl, World.block_lt_of_cell? w _ (by simpa [Addr.add] using hz), hcl, fun j hj => ?_, htr⟩
    have := hat j hj
    rwa [Go.Deep.add_add, Addr.add_lit] at this

end

theorem len3 {α : Type} {l : List α} (h : l.length = 3) : ∃ a b c, l = [a, b, c] := by
  rcases l with _ | ⟨a, _ | ⟨b, _ | ⟨c, _ | ⟨d, r⟩⟩⟩⟩ <;> simp at h
  exact ⟨_, _, _, rfl⟩

theorem len4 {α : Type} {l : List α} (h : l.length = 4) : ∃ a b c d, l = [a, b, c, d] := by
  rcases l with _ | ⟨a, _ | ⟨b, _ | ⟨c, _ | ⟨d, _ | ⟨e, r⟩⟩⟩⟩⟩ <;> simp at h
  exact ⟨_, _, _, _, rfl⟩

theorem len5 {α : Type} {l : List α} (h : l.length = 5) : ∃ a b c d e, l = [a, b, c, d, e] := by
  rcases l with _ | ⟨a, _ | ⟨b, _ | ⟨c, _ | ⟨d, _ | ⟨e, _ | ⟨f, r⟩⟩⟩⟩⟩⟩ <;> simp at h
  exact ⟨_, _, _, _, _, rfl⟩

theorem Tm.of {H : Type} {enc : TypeId × Value → H} {w : World} {base : Nat} {spare : Nat → Bool} {held : Bool} {fuel : Nat} {cs : List Value} {x : DataW H × List MemPlace} (h : DataW.trod enc Try.prog w base spare held fuel 32 cs = some x) : ∃ t : Tm, cs = [.int .i64 t.kind, .int .i64 t.a, .int .i64 t.to, .int .i64 t.el] ∧ t.Wf := by
  obtain ⟨xs, n, _, _, hl, hxl, hf⟩ := DataW.trod_struct Try.underlying32 h
  have h5 : cs.length = 4 := hl.trans (by kernel_rfl)
  have hx5 : xs.length = 4 := hxl
  obtain ⟨v0, e0, w0⟩ := fld_int (k := 0) Try.underlying3 (by kernel_rfl) (hf 0 _ rfl) (by omega) (by rw [h5]; decide)
  obtain ⟨v1, e1, w1⟩ := fld_int (k := 1) Try.underlying3 (by kernel_rfl) (hf 1 _ rfl) (by omega) (by rw [h5]; decide)
  obtain ⟨v2, e2, w2⟩ := fld_int (k := 2) Try.underlying3 (by kernel_rfl) (hf 2 _ rfl) (by omega) (by rw [h5]; decide)
  obtain ⟨v3, e3, w3⟩ := fld_int (k := 3) Try.underlying3 (by kernel_rfl) (hf 3 _ rfl) (by omega) (by rw [h5]; decide)
  refine ⟨⟨v0, v1, v2, v3⟩, ?_, w0, w1, w2, w3⟩
  obtain ⟨a, b, c, d, rfl⟩ := len4 h5
  simp only [List.getElem?_cons_zero, List.getElem?_cons_succ, Option.some.injEq] at e0 e1 e2 e3
  rw [e0, e1, e2, e3]

end Go.Proofs.Ytncigbpeempnfaa

/-
  Words for memory, continued: which blocks a step may turn, and blocks that are known whole.
-/
namespace Go.Proofs.Ytncigbpeempnfaa
open Go.RowKit

/-- Of the blocks that are there, only those of which S speaks may have turned. -/
structure Mods (S : Nat → Prop) (w w' : World) : Prop where
  os : w'.os = w.os
  tape : w'.tape = w.tape
  output : w'.output = w.output
  size : w.heap.size ≤ w'.heap.size
  block : ∀ k, k < w.heap.size → ¬ S k → w'.heap[k]? = w.heap[k]?

def Is (p : Nat) : Nat → Prop := fun k => k = p

def No : Nat → Prop := fun _ => False

section
variable {S S' : Nat → Prop} {a b c w w' : World}

theorem Mods.refl (S : Nat → Prop) (w : World) : Mods S w w := ⟨rfl, rfl, rfl, Nat.le_refl _, fun _ _ _ => rfl⟩

theorem Mods.trans (h : Mods S a b) (k : Mods S b c) : Mods S a c :=
  ⟨k.os.trans h.os, k.tape.trans h.tape, k.output.trans h.output, Nat.le_trans h.size k.size, fun i hi hn => (k.block i (Nat.lt_of_lt_of_le hi h.size) hn).trans (h.block i hi hn)⟩

theorem Mods.mono (h : Mods S a b) (hS : ∀ k, S k → S' k) : Mods S' a b := ⟨h.os, h.tape, h.output, h.size, fun k hk hn => h.block k hk fun hs => hn (hS k hs)⟩

/-- A step that turns only what is new to the first world may follow. -/
theorem Mods.then (h : Mods S a b) (k : Mods S' b c) (hS : ∀ k, S' k → S k ∨ a.heap.size ≤ k) : Mods S a c :=
  ⟨k.os.trans h.os, k.tape.trans h.tape, k.output.trans h.output, Nat.le_trans h.size k.size, fun i hi hn => (k.block i (Nat.lt_of_lt_of_le hi h.size) fun hs => (hS i hs).elim hn fun hh => by omega).trans (h.block i hi hn)⟩

theorem Mods.of_below (h : Below a.heap.size a b) : Mods S a b := ⟨h.os, h.tape, h.output, h.size, fun k hk _ => h.block k hk⟩

theorem Mods.below {B : Nat} (h : Mods S a b) (hB : B ≤ a.heap.size) (hS : ∀ k, S k → B ≤ k) : Below B a b :=
  ⟨h.os, h.tape, h.output, h.size, fun k hk => h.block k (by omega) fun hs => by have := hS k hs; omega⟩

theorem Mods.drew (h : Mods S a w) : Mods S a w.drew := ⟨h.os, h.tape, h.output, h.size, h.block⟩

theorem Mods.drewN (h : Mods S a w) (n : Nat) : Mods S a (w.drewN n) := ⟨h.os, h.tape, h.output, h.size, h.block⟩

theorem Mods.un (h : Mods S a.drew w) : Mods S a w := ⟨h.os, h.tape, h.output, h.size, h.block⟩

theorem Mods.unN {n : Nat} (h : Mods S (a.drewN n) w) : Mods S a w := ⟨h.os, h.tape, h.output, h.size, h.block⟩

theorem Mods.alloc (h : Mods S a w) (o : Obj) : Mods S a (w.alloc o) :=
  ⟨h.os, h.tape, h.output, Nat.le_trans h.size (by simp), fun k hk hn => (Below.heap_alloc w o k (Nat.lt_of_lt_of_le hk h.size)).trans (h.block k hk hn)⟩

theorem Mods.setCell (h : Mods S a w) {p : Addr} (hp : S p.block ∨ a.heap.size ≤ p.block) (u : Value) : Mods S a (w.setCell p u) :=
  ⟨h.os, h.tape, h.output, Nat.le_trans h.size (by simp [World.setCell]), fun k hk hn => (Below.heap_setCell w p u k (by
    rintro rfl
    exact hp.elim hn fun hh => by omega)).trans (h.block k hk hn)⟩

theorem Mods.put {p : Nat} (h : Mods (Is p) a w) (i : Nat) (u : Value) : Mods (Is p) a (w.setCell ⟨p, i, none⟩ u) := h.setCell (p := ⟨p, i, none⟩) (.inl rfl) u

theorem Mods.grown {row : Option Nat} (h : Mods S a w) (hg : w.grownBy w' row) (hr : ∀ k, row = some k → S k ∨ a.heap.size ≤ k) : Mods S a w' :=
  ⟨hg.os.trans h.os, hg.tape.trans h.tape, hg.output.trans h.output, Nat.le_trans h.size hg.size, fun k hk hn => (hg.block k (Nat.lt_of_lt_of_le hk h.size) (fun e => by
    rcases hr k e.symm with h1 | h1
    · exact hn h1
    · omega)).trans (h.block k hk hn)⟩

theorem Mods.cell (h : Mods S w w') {p : Addr} (hp : p.block < w.heap.size) (hn : ¬ S p.block) : w'.cell? p = w.cell? p := World.cell?_of_block (w := w) (h.block p.block hp hn)

theorem Mods.frozen (h : Mods S w w') {p : Addr} (hp : p.block < w.heap.size) (hn : ¬ S p.block) : w'.frozen? p = w.frozen? p := World.frozen?_of_block (w := w) (h.block p.block hp hn)

theorem Mods.sees {B : Nat} {A : Option Addr} {xs : List Value} (h : Mods S w w') (hs : Sees w B A xs) (hB : B ≤ w.heap.size) (hA : ∀ x, A = some x → ¬ S x.block) : Sees w' B A xs := fun hn => by
  obtain ⟨b, o, rfl, hb, hc⟩ := hs hn
  exact ⟨b, o, rfl, hb, fun i u hu => (h.cell (p := ⟨b, o + i, none⟩) (by show b < _; omega) (hA ⟨b, o, none⟩ rfl)).trans (hc i u hu)⟩

theorem Mods.own {base n : Nat} {e : TypeId} {v : Value} {xs : List Value} (h : Mods S w w') (ho : w.ownsRow base e 1 v n xs) (hS : ∀ k, v.ownBlock = some k → ¬ S k) : w'.ownsRow base e 1 v n xs := by
  obtain ⟨h1, h2⟩ := ho
  refine ⟨h1, ?_⟩
  rcases h2 with h2 | ⟨g, cap, cur, rfl, hg, hh, r⟩
  · exact Or.inl h2
  · exact Or.inr ⟨g, cap, cur, rfl, hg, (h.block g (Array.getElem?_eq_some_iff.1 hh).1 (hS g (by simp [Value.ownBlock]))).trans hh, r⟩

end

/-- Block p is just the cells cs of element type T, none of them frozen. -/
def Row (w : World) (p : Nat) (T : TypeId) (cs : Array Value) : Prop := w.heap[p]? = some (.cells cs T (0, 0))

section
variable {S : Nat → Prop} {w w' : World} {p : Nat} {T : TypeId} {cs : Array Value}

theorem Row.lt (h : Row w p T cs) : p < w.heap.size := (Array.getElem?_eq_some_iff.1 h).1

theorem Row.cell (h : Row w p T cs) (i : Nat) : w.cell? ⟨p, i, none⟩ = cs[i]? := cell_of_row w p i cs T (0, 0) h

theorem Row.k0 {a : Value} {r : List Value} (h : Row w p T (a :: r).toArray) : w.cell? ⟨p, 0, none⟩ = some a := cell_of_row w p 0 _ T (0, 0) h

theorem Row.k1 {a b : Value} {r : List Value} (h : Row w p T (a :: b :: r).toArray) : w.cell? ⟨p, 1, none⟩ = some b := cell_of_row w p 1 _ T (0, 0) h

theorem Row.k2 {a b c : Value} {r : List Value} (h : Row w p T (a :: b :: c :: r).toArray) : w.cell? ⟨p, 2, none⟩ = some c := cell_of_row w p 2 _ T (0, 0) h

theorem Row.k3 {a b c d : Value} {r : List Value} (h : Row w p T (a :: b :: c :: d :: r).toArray) : w.cell? ⟨p, 3, none⟩ = some d := cell_of_row w p 3 _ T (0, 0) h

theorem Row.k4 {a b c d e : Value} {r : List Value} (h : Row w p T (a :: b :: c :: d :: e :: r).toArray) : w.cell? ⟨p, 4, none⟩ = some e := cell_of_row w p 4 _ T (0, 0) h

theorem Row.k5 {a b c d e f : Value} {r : List Value} (h : Row w p T (a :: b :: c :: d :: e :: f :: r).toArray) : w.cell? ⟨p, 5, none⟩ = some f := cell_of_row w p 5 _ T (0, 0) h

theorem Row.k6 {a b c d e f g : Value} {r : List Value} (h : Row w p T (a :: b :: c :: d :: e :: f :: g :: r).toArray) : w.cell? ⟨p, 6, none⟩ = some g := cell_of_row w p 6 _ T (0, 0) h

theorem Row.k7 {a b c d e f g i : Value} {r : List Value} (h : Row w p T (a :: b :: c :: d :: e :: f :: g :: i :: r).toArray) : w.cell? ⟨p, 7, none⟩ = some i := cell_of_row w p 7 _ T (0, 0) h

theorem Row.k8 {a b c d e f g i j : Value} {r : List Value} (h : Row w p T (a :: b :: c :: d :: e :: f :: g :: i :: j :: r).toArray) : w.cell? ⟨p, 8, none⟩ = some j := cell_of_row w p 8 _ T (0, 0) h

theorem Row.k9 {a b c d e f g i j l : Value} {r : List Value} (h : Row w p T (a :: b :: c :: d :: e :: f :: g :: i :: j :: l :: r).toArray) : w.cell? ⟨p, 9, none⟩ = some l := cell_of_row w p 9 _ T (0, 0) h

theorem Row.k10 {a b c d e f g i j l m : Value} {r : List Value} (h : Row w p T (a :: b :: c :: d :: e :: f :: g :: i :: j :: l :: m :: r).toArray) : w.cell? ⟨p, 10, none⟩ = some m := cell_of_row w p 10 _ T (0, 0) h

theorem Row.k11 {a b c d e f g i j l m n : Value} {r : List Value} (h : Row w p T (a :: b :: c :: d :: e :: f :: g :: i :: j :: l :: m :: n :: r).toArray) : w.cell? ⟨p, 11, none⟩ = some n := cell_of_row w p 11 _ T (0, 0) h

theorem Row.frozen (h : Row w p T cs) (i : Nat) : w.frozen? ⟨p, i, none⟩ = false := by
  unfold Row at h
  simp [World.frozen?, h]

theorem Row.new (w : World) (T : TypeId) (cs : Array Value) : Row (w.alloc (.cells cs T)) w.heap.size T cs := heap_alloc_new w _

theorem Row.drew (h : Row w p T cs) : Row w.drew p T cs := h

theorem Row.drewN (h : Row w p T cs) (n : Nat) : Row (w.drewN n) p T cs := h

theorem Row.alloc (h : Row w p T cs) (o : Obj) : Row (w.alloc o) p T cs := (Below.heap_alloc w o p h.lt).trans h

theorem Row.put (h : Row w p T cs) (i : Nat) (u : Value) : Row (w.setCell ⟨p, i, none⟩ u) p T (cs.setIfInBounds i u) := by
  unfold Row at h ⊢
  simp [World.setCell, Array.getElem?_modify, h]

theorem Row.far (h : Row w p T cs) {q : Addr} (hq : p ≠ q.block) (u : Value) : Row (w.setCell q u) p T cs := (Below.heap_setCell w q u p hq).trans h

theorem Row.mods (h : Row w p T cs) (hm : Mods S w w') (hp : ¬ S p) : Row w' p T cs := (hm.block p h.lt hp).trans h

theorem Row.below {B : Nat} (h : Row w p T cs) (hb : Below B w w') (hp : p < B) : Row w' p T cs := (hb.block p hp).trans h

end

end Go.Proofs.Ytncigbpeempnfaa

/-
  Slices of 64-bit integers in memory.
-/
namespace Go.Proofs.Ytncigbpeempnfaa
open Go.RowKit
set_option linter.unusedVariables false

def InI (n : Int) : Prop := -9223372036854775808 ≤ n ∧ n ≤ 9223372036854775807

/-- Integers as cells. -/
def ints (l : List Int) : List Value := l.map fun x => Value.int .i64 x

theorem ints_get {l : List Int} {k : Nat} (h : k < l.length) : (ints l)[k]? = some (.int .i64 l[k]) := by simp [ints, h]

theorem ints_ne {l : List Int} {k : Nat} (h : k < l.length) : ints l ≠ [] := by
  intro e
  have := congrArg List.length e
  simp [ints] at this
  subst this
  simp at h

theorem ints_at {w : World} {B : Nat} {A : Option Addr} {l : List Int} (h : Sees w B A (ints l)) {k : Nat} (hk : k < l.length) : ∃ b o, A = some ⟨b, o, none⟩ ∧ b < B ∧ w.cell? ⟨b, o + k, none⟩ = some (.int .i64 l[k]) := by
  obtain ⟨b, o, e, hb, hc⟩ := h (ints_ne hk)
  exact ⟨b, o, e, hb, hc k _ (ints_get hk)⟩

theorem infoI64 : (Try.prog.info? 2).map (fun i => (i.zero, i.size, i.bytes)) = some (some (.int .i64 0), 1, 8) := by kernel_rfl

theorem ints_length (l : List Int) : (ints l).length = l.length := by simp [ints]

theorem ints_append (l r : List Int) : ints (l ++ r) = ints l ++ ints r := by simp [ints]

theorem ints_one (l : List Int) : ∀ u ∈ ints l, u.oneCell' = true := by
  intro u hu
  obtain ⟨_, _, rfl⟩ := List.mem_map.1 hu
  rfl

theorem ints_take (l : List Int) (k : Nat) : (ints l).take k = ints (l.take k) := by simp [ints, List.map_take]

theorem ints_set (l : List Int) (k : Nat) (v : Int) : ints (l.set k v) = (ints l).set k (.int .i64 v) := by simp [ints, List.map_set]

theorem own_frozen {w : World} {lo : Nat} {e : TypeId} {n s g k : Nat} {v : Value} {xs : List Value} (h : w.ownsRow lo e s v n xs) (hg : v.ownBlock = some g) : w.frozen? ⟨g, k, none⟩ = false := by
  rcases h.2 with ⟨rfl, _⟩ | ⟨g', cap, cur, rfl, _, hh, _⟩
  · cases hg
  · simp only [Value.ownBlock, Option.some.injEq] at hg
    subst hg
    exact Row.frozen (T := e) (cs := cur) hh k

/-- A slice of 64-bit integers that came in: its elements as a list. -/
theorem IsRow.ints {w : World} {a : Option Addr} {len cap : Nat} {zs : List Int} (h : IsRow .i64 w a len cap zs) :
    ∃ l : List Int, l.length = len ∧ (∀ v ∈ l, InI v) ∧ Sees w w.heap.size a (ints l) ∧ len ≤ cap ∧ cap ≤ maxLen := by
  rcases h with ⟨rfl, rfl, rfl, rfl⟩ | ⟨x, rfl, h1, h2, h3, h4, h5⟩
  · exact ⟨[], rfl, fun v hv => by simp at hv, Sees.nil, Nat.le_refl _, Nat.zero_le _⟩
  · refine ⟨zs.take len, by simp; omega, fun v hv => i64_of_wf (h5 v (List.mem_of_mem_take hv)), fun hn => ?_, h1, h2⟩
    have hl : 0 < len := by
      rcases Nat.eq_zero_or_pos len with h0 | h0
      · subst h0; simp [Go.Proofs.Ytncigbpeempnfaa.ints] at hn
      · exact h0
    have hc0 := h4 0 (by omega)
    obtain ⟨b, o, s⟩ := x
    have hs : s = none := by simpa [Addr.add] using World.cell?_spot hc0
    subst hs
    refine ⟨b, o, rfl, World.block_lt_of_cell? w _ (by simpa [Addr.add] using hc0), fun i u hu => ?_⟩
    have hi : i < (zs.take len).length := by
      rcases Nat.lt_or_ge i (zs.take len).length with h0 | h0
      · exact h0
      · rw [List.getElem?_eq_none (by rw [ints_length]; exact h0)] at hu; cases hu
    rw [ints_get hi] at hu
    have hz : i < zs.length := by have := List.length_take_le len zs; simp at hi; omega
    have := h4 i hz
    rw [Addr.add_lit] at this
    rw [this, ← hu]
    simp [List.getD, hz]

end Go.Proofs.Ytncigbpeempnfaa

/-
  Functions and instructions as they come in.
-/
namespace Go.Proofs.Ytncigbpeempnfaa
open Go.RowKit Go.ChangeShapes Go.WideShapes Go.Deep
set_option linter.unusedVariables false
set_option maxRecDepth 100000

def In.Wf (x : In) : Prop := I64 x.op ∧ I64 x.d ∧ I64 x.a ∧ I64 x.b ∧ I64 x.imm

def Blk.Wf (x : Blk) : Prop := (∀ y ∈ x.code, y.Wf) ∧ x.term.Wf

section
variable {H : Type} {enc : TypeId × Value → H} {w : World} {base : Nat} {spare : Nat → Bool} {held : Bool} {fuel : Nat}

theorem In.of {cs : List Value} {x : DataW H × List MemPlace} (h : DataW.trod enc Try.prog w base spare held fuel 56 cs = some x) : ∃ y : In, cs = y.cells ∧ y.Wf := by
  obtain ⟨xs, n, _, _, hl, hxl, hf⟩ := DataW.trod_struct Try.underlying56 h
  have h5 : cs.length = 5 := hl.trans (by kernel_rfl)
  have hx5 : xs.length = 5 := hxl
  obtain ⟨v0, e0, w0⟩ := fld_int (k := 0) Try.underlying3 (by kernel_rfl) (hf 0 _ rfl) (by omega) (by rw [h5]; decide)
  obtain ⟨v1, e1, w1⟩ := fld_int (k := 1) Try.underlying3 (by kernel_rfl) (hf 1 _ rfl) (by omega) (by rw [h5]; decide)
  obtain ⟨v2, e2, w2⟩ := fld_int (k := 2) Try.underlying3 (by kernel_rfl) (hf 2 _ rfl) (by omega) (by rw [h5]; decide)
  obtain ⟨v3, e3, w3⟩ := fld_int (k := 3) Try.underlying3 (by kernel_rfl) (hf 3 _ rfl) (by omega) (by rw [h5]; decide)
  obtain ⟨v4, e4, w4⟩ := fld_int (k := 4) Try.underlying2 (by kernel_rfl) (hf 4 _ rfl) (by omega) (by rw [h5]; decide)
  refine ⟨⟨v0, v1, v2, v3, v4⟩, ?_, w0, w1, w2, w3, w4⟩
  obtain ⟨a, b, c, d, e, rfl⟩ := len5 h5
  simp only [List.getElem?_cons_zero, List.getElem?_cons_succ, Option.some.injEq] at e0 e1 e2 e3 e4
  rw [e0, e1, e2, e3, e4]
  rfl

/-- The instructions of a block that came in. -/
theorem InsAt.of {a : Option Addr} {len cap : Nat} {x : DataW H × List MemPlace} (h : DataW.trod enc Try.prog w base spare held fuel 30 [.slice a len cap] = some x) :
    ∃ xs : List In, xs.length = len ∧ len ≤ cap ∧ cap ≤ maxLen ∧ InsAt w w.heap.size a xs ∧ ∀ y ∈ xs, y.Wf := by
  obtain ⟨hl, hm, hi⟩ := trod_elems (s := 5) Try.underlying30 (by kernel_rfl) (by decide) h
  have each : ∀ i, i < len → ∃ y : In, y.Wf ∧ ∃ b o, a = some ⟨b, o, none⟩ ∧ b < w.heap.size ∧ y.At w b (o + i * 5) := fun i hil => by
    obtain ⟨b, o, n, cs, z, rfl, hlt, hcl, hat, ht⟩ := hi i hil
    obtain ⟨y, rfl, hy⟩ := In.of ht
    have g := fun j (hj : j < 5) => hat j hj
    have g0 := g 0 (by decide); have g1 := g 1 (by decide); have g2 := g 2 (by decide); have g3 := g 3 (by decide); have g4 := g 4 (by decide)
    refine ⟨y, hy, b, o, rfl, hlt, ?_, ?_, ?_, ?_, ?_⟩
    · exact g0
    · rw [Nat.add_assoc]; exact g1
    · rw [Nat.add_assoc]; exact g2
    · rw [Nat.add_assoc]; exact g3
    · rw [Nat.add_assoc]; exact g4
  haveI : Inhabited In := ⟨⟨0, 0, 0, 0, 0⟩⟩
  obtain ⟨y, hy⟩ := choose_lt each
  refine ⟨(List.range len).map y, by simp, hl, hm, fun hn => ?_, fun z hz => ?_⟩
  · have h0 : 0 < len := by
      rcases Nat.eq_zero_or_pos len with h0 | h0
      · subst h0; simp at hn
      · exact h0
    obtain ⟨_, b, o, rfl, hb, _⟩ := hy 0 h0
    refine ⟨b, o, rfl, hb, fun i z hz => ?_⟩
    have hil : i < len := by
      have := (List.getElem?_eq_some_iff.1 hz).1
      simpa using this
    obtain ⟨_, b', o', e, _, hat⟩ := hy i hil
    injection e with e
    injection e with e1 e2
    subst e1
    subst e2
    have : y i = z := by simpa [hil] using hz
    subst this
    exact hat
  · obtain ⟨i, hil, rfl⟩ := List.mem_map.1 hz
    exact (hy i (List.mem_range.1 hil)).1

/-- A block that came in. -/
theorem Blk.of {cs : List Value} {x : DataW H × List MemPlace} (h : DataW.trod enc Try.prog w base spare held fuel 34 cs = some x) :
    ∃ (y : Blk) (A : Option Addr) (c : Nat), cs = [.slice A y.code.length c, .int .i64 y.term.kind, .int .i64 y.term.a, .int .i64 y.term.to, .int .i64 y.term.el] ∧ y.code.length ≤ c ∧ c ≤ maxLen ∧ InsAt w w.heap.size A y.code ∧ y.Wf := by
  obtain ⟨xs, n, _, _, hl, hxl, hf⟩ := DataW.trod_struct Try.underlying34 h
  have h5 : cs.length = 5 := hl.trans (by kernel_rfl)
  have hx5 : xs.length = 2 := hxl
  obtain ⟨v0, y0, e0, t0⟩ := fld_cell (k := 0) (cs := cs) (by kernel_rfl) (hf 0 _ rfl) (by omega) (by rw [h5]; decide)
  have h1 := hf 1 _ rfl
  rw [List.getElem?_eq_getElem (by omega)] at h1
  obtain ⟨t, et, ht⟩ := Tm.of (cs := (cs.drop 1).take (Try.prog.cellsOf 32)) h1
  rcases open_slice Try.underlying30 t0 with ⟨h0, _⟩ | ⟨ad, l, c, m, n', D, Pl, hcs, _⟩
  · injection h0 with h0 _
    refine ⟨⟨[], t⟩, none, 0, ?_, Nat.le_refl _, Nat.zero_le _, InsAt.nil, fun y hy => by simp at hy, ht⟩
    obtain ⟨a, b, c, d, e, rfl⟩ := len5 h5
    simp only [List.getElem?_cons_zero, Option.some.injEq] at e0
    rw [show Try.prog.cellsOf 32 = 4 from by kernel_rfl] at et
    simp only [List.drop_succ_cons, List.drop_zero, List.take_succ_cons, List.take_zero] at et
    rw [e0, h0, et]
    rfl
  · injection hcs with h0 _
    subst h0
    obtain ⟨code, rfl, hl1, hl2, hin, hw⟩ := InsAt.of t0
    refine ⟨⟨code, t⟩, some ad, c, ?_, hl1, hl2, hin, hw, ht⟩
    obtain ⟨a, b, c', d, e, rfl⟩ := len5 h5
    simp only [List.getElem?_cons_zero, Option.some.injEq] at e0
    rw [show Try.prog.cellsOf 32 = 4 from by kernel_rfl] at et
    simp only [List.drop_succ_cons, List.drop_zero, List.take_succ_cons, List.take_zero] at et
    rw [e0, et]

/-- The blocks of a function that came in. -/
theorem BlksAt.of {a : Option Addr} {len cap : Nat} {x : DataW H × List MemPlace} (h : DataW.trod enc Try.prog w base spare held fuel 22 [.slice a len cap] = some x) :
    ∃ xs : List Blk, xs.length = len ∧ len ≤ cap ∧ cap ≤ maxLen ∧ BlksAt w w.heap.size a xs ∧ ∀ y ∈ xs, y.Wf := by
  obtain ⟨hl, hm, hi⟩ := trod_elems (s := 5) Try.underlying22 (by kernel_rfl) (by decide) h
  have each : ∀ i, i < len → ∃ y : Blk, y.Wf ∧ ∃ b o, a = some ⟨b, o, none⟩ ∧ b < w.heap.size ∧ y.At w w.heap.size b (o + i * 5) := fun i hil => by
    obtain ⟨b, o, n, cs, z, rfl, hlt, hcl, hat, ht⟩ := hi i hil
    obtain ⟨y, A, c, rfl, hl1, hl2, hin, hy⟩ := Blk.of ht
    have g := fun j (hj : j < 5) => hat j hj
    have g0 := g 0 (by decide); have g1 := g 1 (by decide); have g2 := g 2 (by decide); have g3 := g 3 (by decide); have g4 := g 4 (by decide)
    refine ⟨y, hy, b, o, rfl, hlt, ⟨A, c, ?_, hl1, hl2, hin⟩, ?_, ?_, ?_, ?_⟩
    · exact g0
    · rw [Nat.add_assoc]; exact g1
    · rw [Nat.add_assoc]; exact g2
    · rw [Nat.add_assoc]; exact g3
    · rw [Nat.add_assoc]; exact g4
  haveI : Inhabited Blk := ⟨⟨[], ⟨0, 0, 0, 0⟩⟩⟩
  obtain ⟨y, hy⟩ := choose_lt each
  refine ⟨(List.range len).map y, by simp, hl, hm, fun hn => ?_, fun z hz => ?_⟩
  · have h0 : 0 < len := by
      rcases Nat.eq_zero_or_pos len with h0 | h0
      · subst h0; simp at hn
      · exact h0
    obtain ⟨_, b, o, rfl, hb, _⟩ := hy 0 h0
    refine ⟨b, o, rfl, hb, fun i z hz => ?_⟩
    have hil : i < len := by
      have := (List.getElem?_eq_some_iff.1 hz).1
      simpa using this
    obtain ⟨_, b', o', e, _, hat⟩ := hy i hil
    injection e with e
    injection e with e1 e2
    subst e1
    subst e2
    have : y i = z := by simpa [hil] using hz
    subst this
    exact hat
  · obtain ⟨i, hil, rfl⟩ := List.mem_map.1 hz
    exact (hy i (List.mem_range.1 hil)).1

/-- A source function as a value. -/
def IsFn (w : World) (cs : Array Value) : Prop :=
  ∃ (args regs : Int) (A : Option Addr) (bs : List Blk) (c : Nat), cs = #[.int .i64 args, .int .i64 regs, .slice A bs.length c] ∧ I64 args ∧ I64 regs ∧ bs.length ≤ c ∧ c ≤ maxLen ∧ BlksAt w w.heap.size A bs ∧ ∀ y ∈ bs, y.Wf

def IsIn (w : World) (cs : Array Value) : Prop := ∃ x : In, cs = #[.int .i64 x.op, .int .i64 x.d, .int .i64 x.a, .int .i64 x.b, .int .i64 x.imm] ∧ x.Wf

def IsTm (w : World) (cs : Array Value) : Prop := ∃ t : Tm, cs = #[.int .i64 t.kind, .int .i64 t.a, .int .i64 t.to, .int .i64 t.el] ∧ t.Wf

theorem IsFn.of {cs : Array Value} {x : DataW H × List MemPlace} (h : DataW.trod enc Try.prog w base spare held fuel 24 cs.toList = some x) : IsFn w cs := by
  obtain ⟨cs⟩ := cs
  obtain ⟨xs, n, _, _, hl, hxl, hf⟩ := DataW.trod_struct Try.underlying24 h
  have h5 : cs.length = 3 := hl.trans (by kernel_rfl)
  have hx5 : xs.length = 3 := hxl
  obtain ⟨v0, e0, w0⟩ := fld_int (k := 0) (cs := cs) Try.underlying3 (by kernel_rfl) (hf 0 _ rfl) (by omega) (by rw [h5]; decide)
  obtain ⟨v1, e1, w1⟩ := fld_int (k := 1) (cs := cs) Try.underlying3 (by kernel_rfl) (hf 1 _ rfl) (by omega) (by rw [h5]; decide)
  obtain ⟨v2, y2, e2, t2⟩ := fld_cell (k := 2) (cs := cs) (by kernel_rfl) (hf 2 _ rfl) (by omega) (by rw [h5]; decide)
  obtain ⟨a, b, c, rfl⟩ := len3 h5
  simp only [List.getElem?_cons_zero, List.getElem?_cons_succ, Option.some.injEq] at e0 e1 e2
  subst e0
  subst e1
  subst e2
  rcases open_slice Try.underlying22 t2 with ⟨h0, _⟩ | ⟨ad, l, c, m, n', D, Pl, hcs, _⟩
  · injection h0 with h0 _
    subst h0
    exact ⟨v0, v1, none, [], 0, rfl, w0, w1, Nat.le_refl _, Nat.zero_le _, BlksAt.nil, fun y hy => by simp at hy⟩
  · injection hcs with h0 _
    subst h0
    obtain ⟨bs, rfl, hl1, hl2, hin, hw⟩ := BlksAt.of t2
    exact ⟨v0, v1, some ad, bs, c, rfl, w0, w1, hl1, hl2, hin, hw⟩

theorem IsIn.of {cs : Array Value} {x : DataW H × List MemPlace} (h : DataW.trod enc Try.prog w base spare held fuel 56 cs.toList = some x) : IsIn w cs := by
  obtain ⟨y, hy, hw⟩ := In.of h
  obtain ⟨cs⟩ := cs
  exact ⟨y, congrArg List.toArray hy, hw⟩

theorem IsTm.of {cs : Array Value} {x : DataW H × List MemPlace} (h : DataW.trod enc Try.prog w base spare held fuel 32 cs.toList = some x) : IsTm w cs := by
  obtain ⟨y, hy, hw⟩ := Tm.of h
  obtain ⟨cs⟩ := cs
  exact ⟨y, congrArg List.toArray hy, hw⟩

end

end Go.Proofs.Ytncigbpeempnfaa

/-
  The names and shapes of opcodes, and the program's table of names in memory.
-/
namespace Go.Proofs.Ytncigbpeempnfaa
open Go.RowKit

/-- The names, by opcode. -/
def nmL : List (List UInt8) := [[], [99, 111, 110, 115, 116], [99, 111, 112, 121], [110, 101, 103], [110, 111, 116], [97, 100, 100], [115, 117, 98], [109, 117, 108], [100, 105, 118], [114, 101, 109], [97, 110, 100], [111, 114], [120, 111, 114], [115, 104, 108], [115, 104, 114], [101, 113], [108, 101, 115, 115], [101, 109, 105, 116], [109, 111, 118, 101]]

def nm (i : Nat) : List UInt8 := nmL.getD i []

def nmB (i : Nat) : ByteArray := ⟨(nm i).toArray⟩

theorem nmB_list (i : Nat) : (nmB i).toList = nm i := by rw [ByteArray.toList_eq]; rfl

theorem nmB_data (i : Nat) : (nmB i).data.toList = nm i := rfl

/-- The name of a number. -/
def nameB (op : Int) : ByteArray := if 1 ≤ op ∧ op ≤ 18 then nmB op.toNat else ⟨#[]⟩

theorem nameB_in {op : Int} (h : 1 ≤ op ∧ op ≤ 18) : nameB op = nmB op.toNat := by rw [nameB, if_pos h]

theorem nameB_out {op : Int} (h : ¬ (1 ≤ op ∧ op ≤ 18)) : nameB op = ⟨#[]⟩ := by rw [nameB, if_neg h]

/-- The opcode of a name. -/
def fnd (l : List UInt8) : Nat := ((List.range 19).find? fun k => nm k == l).getD 0

theorem fnd_nm {k : Nat} (h : k < 19) : fnd (nm k) = k := (by decide : ∀ k < 19, fnd (nm k) = k) k h

theorem fnd_hit {k : Nat} {l : List UInt8} (h : k < 19) (e : nm k = l) : fnd l = k := by subst e; exact fnd_nm h

theorem fnd_miss {l : List UInt8} (h : ∀ k, k < 19 → nm k ≠ l) : fnd l = 0 := by
  unfold fnd
  rw [List.find?_eq_none.2 fun k hk => by simpa using h k (List.mem_range.1 hk)]
  rfl

theorem fnd_cases (l : List UInt8) : (fnd l < 19 ∧ nm (fnd l) = l) ∨ fnd l = 0 := by
  by_cases h : ∃ k, k < 19 ∧ nm k = l
  · obtain ⟨k, hk, e⟩ := h
    rw [fnd_hit hk e]
    exact .inl ⟨hk, e⟩
  · exact .inr (fnd_miss fun k hk e => h ⟨k, hk, e⟩)

theorem fnd_lt (l : List UInt8) : fnd l < 19 := by
  rcases fnd_cases l with h | h
  · exact h.1
  · omega

theorem nm_ne {k : Nat} (h : 1 ≤ k) (h2 : k < 19) : nm k ≠ [] := (by decide : ∀ k < 19, 1 ≤ k → nm k ≠ []) k h2 h

theorem nm_zero : nm 0 = [] := rfl

/-- The shape of an opcode. -/
def uD (op : Int) : Bool := decide (1 ≤ op ∧ op ≤ 16)

def uA (op : Int) : Bool := decide (2 ≤ op ∧ op ≤ 17)

def uB (op : Int) : Bool := decide (5 ≤ op ∧ op ≤ 16)

def uI (op : Int) : Bool := decide (op = 1)

def uO (op : Int) : Bool := decide (1 ≤ op ∧ op ≤ 18)

/-- The table of names, as cells. -/
def tabL : List Value := nmL.map fun l => Value.string ⟨l.toArray⟩

def tabA : Array Value := tabL.toArray

theorem tabL_get {i : Nat} (h : i < 19) : tabL[i]? = some (.string (nmB i)) := by
  have hl : i < nmL.length := h
  rw [tabL, List.getElem?_map, List.getElem?_eq_getElem hl, nmB, nm, List.getD_eq_getElem?_getD, List.getElem?_eq_getElem hl]
  rfl

theorem tabA_size : tabA.size = 19 := rfl

theorem tabA_get {i : Nat} (h : i < 19) : tabA[i]? = some (.string (nmB i)) := by
  have := tabL_get h
  simpa [tabA] using this

/-- An array of strings that reads as these strings holds them, cell for cell. -/
theorem cells_of_strs {H : Type} {enc : TypeId × Value → H} {P : Program} {w : World} {base : Nat} {sp : Nat → Bool} {held : Bool} {fuel : Nat} {t e : TypeId} {n : Nat} {cs : List Value} {ls : List (List UInt8)} {p : List MemPlace}
    (ht : P.underlying t = some (.array n e)) (he : P.underlying e = some .string) (hce : P.cellsOf e = 1) (hct : P.cellsOf t = n)
    (h : DataW.trod enc P w base sp held fuel t cs = some (.agg (ls.map fun l => .lit (.string l)), p)) : cs = ls.map fun l => Value.string ⟨l.toArray⟩ := by
  obtain ⟨xs, m, -, hx, hl, hxl, hel⟩ := DataW.trod_array ht h
  rw [hct] at hl
  simp only [Prod.mk.injEq, DataW.agg.injEq] at hx
  have hxs := hx.1
  have hzl : ls.length = n := by
    have := congrArg List.length hxs
    simp at this
    omega
  apply List.ext_getElem?
  intro i
  by_cases hi : i < n
  · have hE := hel i hi
    rw [hce, Nat.mul_one] at hE
    have hxi : i < xs.length := by omega
    rw [List.getElem?_eq_getElem hxi] at hE
    obtain ⟨s, hc, hy, _⟩ := DataW.trod_string he hE
    have h1 : cs[i]? = some (.string s) := by
      have := congrArg (·[0]?) hc
      simpa [List.getElem?_take, List.getElem?_drop] using this
    have h2 : (xs.map (·.1))[i]? = some (DataW.lit (.string s.data.toList) : DataW H) := by
      rw [List.getElem?_map, List.getElem?_eq_getElem hxi, hy]
      rfl
    rw [← hxs] at h2
    simp only [List.getElem?_map, Option.map_eq_some_iff, DataW.lit.injEq, Lit.string.injEq] at h2
    obtain ⟨l, hl', rfl⟩ := h2
    rw [h1, List.getElem?_map, hl']
    rfl
  · rw [List.getElem?_eq_none (by omega), List.getElem?_eq_none (by simp; omega)]

end Go.Proofs.Ytncigbpeempnfaa

/-
  What layer 7 answers, as functions on data.
-/
namespace Go.Proofs.Ytncigbpeempnfaa
open Go.RowKit

abbrev Fld := Bool × Int

def Fld.cells (f : Fld) : List Value := [.bool f.1, .int .i64 f.2]

def fR (n : Int) (f : Fld) : Bool := !(f.1 && (decide (f.2 < 0) || decide (n ≤ f.2)))

def fZ (f : Fld) : Bool := !(!f.1 && f.2 != 0)

def okR (n : Int) (fs : List Fld) : Bool := fs.all (fR n)

def okZ (fs : List Fld) : Bool := fs.all fZ

def srcO (op : Int) : Bool := uO op && !(op == 18)

def In.regF (x : In) : List Fld := [(uD x.op, x.d), (uA x.op, x.a), (uB x.op, x.b)]

def In.allF (x : In) : List Fld := [(uD x.op, x.d), (uA x.op, x.a), (uB x.op, x.b), (uI x.op, x.imm)]

/-- The error of an instruction. -/
def eI (x : In) (regs : Int) : Int := if srcO x.op then if okR regs x.regF then if okZ x.allF then 0 else 12 else 9 else 8

def kO (k : Int) : Bool := k == 1 || k == 2 || k == 3

def Tm.aF (t : Tm) : List Fld := [(t.kind != 1, t.a)]

def Tm.toF (t : Tm) : List Fld := [(t.kind != 3, t.to), (t.kind == 2, t.el)]

def Tm.allF (t : Tm) : List Fld := [(t.kind != 1, t.a), (t.kind != 3, t.to), (t.kind == 2, t.el)]

/-- The error of a terminator. -/
def eT (t : Tm) (regs blocks : Int) : Int := if kO t.kind then if okR regs t.aF then if okR blocks t.toF then if okZ t.allF then 0 else 12 else 11 else 9 else 16

def succs (t : Tm) : List Int := if t.kind = 1 then [t.to] else if t.kind = 2 then [t.to, t.el] else []

/-- The number of instructions. -/
def codeN (bs : List Blk) : Nat := (bs.map fun b => b.code.length).sum

theorem codeN_nil : codeN [] = 0 := rfl

theorem codeN_cons (b : Blk) (bs : List Blk) : codeN (b :: bs) = b.code.length + codeN bs := by simp [codeN]

theorem codeN_append (a b : List Blk) : codeN (a ++ b) = codeN a + codeN b := by rw [codeN, List.map_append, List.sum_append]; rfl

theorem codeN_step (bs : List Blk) (k : Nat) (h : k < bs.length) : codeN (bs.take (k + 1)) = codeN (bs.take k) + bs[k].code.length := by
  rw [List.take_succ_eq_append_getElem h, codeN_append, codeN_cons, codeN_nil, Nat.add_zero]

theorem codeN_take (bs : List Blk) (k : Nat) : codeN (bs.take k) ≤ codeN bs := by
  have : codeN bs = codeN (bs.take k) + codeN (bs.drop k) := by rw [← codeN_append, List.take_append_drop]
  omega

theorem codeN_mem (bs : List Blk) (k : Nat) (h : k < bs.length) : bs[k].code.length ≤ codeN bs := by
  have := codeN_step bs k h
  have := codeN_take bs (k + 1)
  omega

/-- The first error of instructions, and of a block; of blocks. -/
def eIs (regs : Int) : List In → Int
  | [] => 0
  | x :: r => if eI x regs = 0 then eIs regs r else eI x regs

def eB (x : Blk) (regs n : Int) : Int := if eIs regs x.code = 0 then eT x.term regs n else eIs regs x.code

def eBs (regs n : Int) : List Blk → Int
  | [] => 0
  | x :: r => if eB x regs n = 0 then eBs regs n r else eB x regs n

/-- The first error of the sizes. -/
def eSz (args regs : Int) (bs : List Blk) : Int :=
  if args < 0 ∨ regs < args then 9 else if 1048576 < regs then 6 else if bs.length = 0 then 14 else if 1048576 < bs.length ∨ 1048576 < codeN bs then 6 else 0

def eF (args regs : Int) (bs : List Blk) : Int := if eSz args regs bs = 0 then eBs regs bs.length bs else eSz args regs bs

theorem eIs_step (regs : Int) : ∀ (l : List In) (k : Nat) (h : k < l.length), eIs regs (l.drop k) = if eI l[k] regs = 0 then eIs regs (l.drop (k + 1)) else eI l[k] regs := by
  intro l k h
  rw [List.drop_eq_getElem_cons h]
  rfl

theorem eBs_step (regs n : Int) : ∀ (l : List Blk) (k : Nat) (h : k < l.length), eBs regs n (l.drop k) = if eB l[k] regs n = 0 then eBs regs n (l.drop (k + 1)) else eB l[k] regs n := by
  intro l k h
  rw [List.drop_eq_getElem_cons h]
  rfl

theorem okR_step (n : Int) (l : List Fld) (k : Nat) (h : k < l.length) : okR n (l.drop k) = (fR n l[k] && okR n (l.drop (k + 1))) := by
  rw [List.drop_eq_getElem_cons h]
  rfl

theorem okZ_step (l : List Fld) (k : Nat) (h : k < l.length) : okZ (l.drop k) = (fZ l[k] && okZ (l.drop (k + 1))) := by
  rw [List.drop_eq_getElem_cons h]
  rfl

theorem eI_range (x : In) (regs : Int) : 0 ≤ eI x regs ∧ eI x regs ≤ 16 := by
  unfold eI
  repeat' split
  all_goals decide

theorem eT_range (t : Tm) (r n : Int) : 0 ≤ eT t r n ∧ eT t r n ≤ 16 := by
  unfold eT
  repeat' split
  all_goals decide

end Go.Proofs.Ytncigbpeempnfaa

/-
  The results of operations: what the program and the reference both return, and the arithmetic of the statements.
-/
namespace Go.Proofs.Ytncigbpeempnfaa
open Go.RowKit

theorem w64 (n : Int) : wrap64 n = (n + 9223372036854775808) % 18446744073709551616 - 9223372036854775808 := by unfold wrap64; omega

theorem w64_in (n : Int) : InI (wrap64 n) := by rw [w64]; unfold InI; omega

theorem w64_id {n : Int} (h : InI n) : wrap64 n = n := by rw [w64]; unfold InI at h; omega

/-- The count of a shift. -/
def cnt (b : Int) : Nat := (b % 64).toNat

theorem cnt_lt (b : Int) : cnt b < 64 := by unfold cnt; omega

theorem and63 (n : Int) : bits .and .i64 n 63 = n % 64 := by
  have h63 : (BitVec.ofInt 64 63).toNat = 2 ^ 6 - 1 := by decide
  have key : (BitVec.ofInt 64 n &&& BitVec.ofInt 64 63).toNat = (n % ((2 ^ 64 : Nat) : Int)).toNat % 2 ^ 6 := by
    rw [BitVec.toNat_and, BitVec.toNat_ofInt, h63, Nat.and_two_pow_sub_one_eq_mod]
  show IntKind.i64.wrap ((BitVec.ofInt 64 n &&& BitVec.ofInt 64 63).toNat : Nat) = n % 64
  rw [key, IntKind.wrap_i64]
  omega

/-- The bits of a number, as a natural number. -/
def ub (a : Int) : Nat := (a % 18446744073709551616).toNat

theorem ub_lt (a : Int) : ub a < 18446744073709551616 := by unfold ub; omega

theorem bits_ub (a b : Int) : bits .and .i64 a b = wrap64 ((ub a &&& ub b : Nat) : Int) ∧ bits .or .i64 a b = wrap64 ((ub a ||| ub b : Nat) : Int) ∧ bits .xor .i64 a b = wrap64 ((ub a ^^^ ub b : Nat) : Int) := by
  have e : ∀ x : Int, (BitVec.ofInt 64 x).toNat = ub x := fun x => by rw [BitVec.toNat_ofInt]; rfl
  refine ⟨?_, ?_, ?_⟩
  · show IntKind.i64.wrap ((BitVec.ofInt 64 a &&& BitVec.ofInt 64 b).toNat : Nat) = _
    rw [BitVec.toNat_and, e, e, IntKind.wrap_i64, w64]
  · show IntKind.i64.wrap ((BitVec.ofInt 64 a ||| BitVec.ofInt 64 b).toNat : Nat) = _
    rw [BitVec.toNat_or, e, e, IntKind.wrap_i64, w64]
  · show IntKind.i64.wrap ((BitVec.ofInt 64 a ^^^ BitVec.ofInt 64 b).toNat : Nat) = _
    rw [BitVec.toNat_xor, e, e, IntKind.wrap_i64, w64]

theorem xor_ones (a : Nat) (h : a < 18446744073709551616) : 18446744073709551615 ^^^ a = 18446744073709551615 - a := by
  have e := congrArg BitVec.toNat (BitVec.xor_allOnes (x := BitVec.ofNat 64 a))
  rw [BitVec.toNat_xor, BitVec.toNat_not, BitVec.toNat_ofNat, BitVec.toNat_allOnes, Nat.mod_eq_of_lt (by omega)] at e
  rw [Nat.xor_comm]
  exact e

theorem bits_not {a : Int} (h : InI a) : bits .xor .i64 (-1) a = -a - 1 := by
  rw [(bits_ub (-1) a).2.2, show ub (-1) = 18446744073709551615 from rfl, xor_ones _ (ub_lt a), w64]
  have := ub_lt a
  unfold ub at *
  unfold InI at h
  omega

theorem and_or_sum (x : Nat) : ∀ y : Nat, (x &&& y) + (x ||| y) = x + y := by
  induction x using Nat.strongRecOn with
  | _ x ih =>
    intro y
    rcases Nat.eq_zero_or_pos x with h0 | h0
    · subst h0; simp
    · have h := ih (x / 2) (by omega) (y / 2)
      have e1 : (x &&& y) / 2 = x / 2 &&& y / 2 := Nat.and_div_two
      have e2 : (x ||| y) / 2 = x / 2 ||| y / 2 := Nat.or_div_two
      have m1 : (x &&& y) % 2 = x % 2 &&& y % 2 := by have := @Nat.and_mod_two_pow x y 1; simpa using this
      have m2 : (x ||| y) % 2 = x % 2 ||| y % 2 := by have := @Nat.or_mod_two_pow x y 1; simpa using this
      rw [← e1, ← e2] at h
      rcases Nat.mod_two_eq_zero_or_one x with hx | hx <;> rcases Nat.mod_two_eq_zero_or_one y with hy | hy <;> rw [hx, hy] at m1 m2 <;> simp only [Nat.reduceAnd, Nat.reduceOr] at m1 m2 <;> omega

theorem xor_and_or (x : Nat) : ∀ y : Nat, (x ^^^ y) + (x &&& y) = x ||| y := by
  induction x using Nat.strongRecOn with
  | _ x ih =>
    intro y
    rcases Nat.eq_zero_or_pos x with h0 | h0
    · subst h0; simp
    · have h := ih (x / 2) (by omega) (y / 2)
      have e1 : (x &&& y) / 2 = x / 2 &&& y / 2 := Nat.and_div_two
      have e2 : (x ||| y) / 2 = x / 2 ||| y / 2 := Nat.or_div_two
      have e3 : (x ^^^ y) / 2 = x / 2 ^^^ y / 2 := Nat.xor_div_two
      have m1 : (x &&& y) % 2 = x % 2 &&& y % 2 := by have := @Nat.and_mod_two_pow x y 1; simpa using this
      have m2 : (x ||| y) % 2 = x % 2 ||| y % 2 := by have := @Nat.or_mod_two_pow x y 1; simpa using this
      have m3 : (x ^^^ y) % 2 = x % 2 ^^^ y % 2 := by have := @Nat.xor_mod_two_pow x y 1; simpa using this
      rw [← e1, ← e2, ← e3] at h
      rcases Nat.mod_two_eq_zero_or_one x with hx | hx <;> rcases Nat.mod_two_eq_zero_or_one y with hy | hy <;> rw [hx, hy] at m1 m2 m3 <;> simp only [Nat.reduceAnd, Nat.reduceOr, Nat.reduceXor] at m1 m2 m3 <;> omega

/-- A truth value as an integer. -/
def tr (t : Bool) : Int := if t then 1 else 0

/-- The result of an operation with two operands. -/
def bin (op : Int) (a b : Int) : Int :=
  if op = 5 then wrap64 (a + b) else if op = 6 then wrap64 (a - b) else if op = 7 then wrap64 (a * b) else if op = 8 then wrap64 (a.tdiv b) else if op = 9 then a.tmod b
  else if op = 10 then bits .and .i64 a b else if op = 11 then bits .or .i64 a b else if op = 12 then bits .xor .i64 a b
  else if op = 13 then wrap64 (a * 2 ^ cnt b) else if op = 14 then a / 2 ^ cnt b else if op = 15 then tr (a == b) else tr (decide (a < b))

/-- Whether there is a result, and the result. -/
def evo (op b : Int) : Bool := decide (1 ≤ op ∧ op ≤ 16) && !(decide (op = 8 ∨ op = 9) && decide (b = 0))

def ev (op a b imm : Int) : Int :=
  if op = 1 then imm else if op = 2 then a else if op = 3 then wrap64 (-a) else if op = 4 then -a - 1 else if evo op b then bin op a b else 0

theorem ev_1 (a b i : Int) : ev 1 a b i = i := rfl

theorem ev_2 (a b i : Int) : ev 2 a b i = a := rfl

theorem ev_3 (a b i : Int) : ev 3 a b i = wrap64 (-a) := rfl

theorem ev_4 (a b i : Int) : ev 4 a b i = -a - 1 := rfl

theorem ev_5 (a b i : Int) : ev 5 a b i = wrap64 (a + b) := rfl

theorem ev_6 (a b i : Int) : ev 6 a b i = wrap64 (a - b) := rfl

theorem ev_7 (a b i : Int) : ev 7 a b i = wrap64 (a * b) := rfl

theorem evo_8 {b : Int} (h : ¬ b = 0) : evo 8 b = true := by unfold evo; rw [decide_eq_false h]; rfl

theorem evo_9 {b : Int} (h : ¬ b = 0) : evo 9 b = true := by unfold evo; rw [decide_eq_false h]; rfl

theorem ev_8 {b : Int} (h : ¬ b = 0) (a i : Int) : ev 8 a b i = wrap64 (a.tdiv b) := by
  show (if evo 8 b then bin 8 a b else 0) = _
  rw [evo_8 h]; rfl

theorem ev_9 {b : Int} (h : ¬ b = 0) (a i : Int) : ev 9 a b i = a.tmod b := by
  show (if evo 9 b then bin 9 a b else 0) = _
  rw [evo_9 h]; rfl

theorem ev_10 (a b i : Int) : ev 10 a b i = bits .and .i64 a b := rfl

theorem ev_11 (a b i : Int) : ev 11 a b i = bits .or .i64 a b := rfl

theorem ev_12 (a b i : Int) : ev 12 a b i = bits .xor .i64 a b := rfl

theorem ev_13 (a b i : Int) : ev 13 a b i = wrap64 (a * 2 ^ cnt b) := rfl

theorem ev_14 (a b i : Int) : ev 14 a b i = a / 2 ^ cnt b := rfl

theorem ev_15 (a b i : Int) : ev 15 a b i = tr (a == b) := rfl

theorem ev_16 (a b i : Int) : ev 16 a b i = tr (decide (a < b)) := rfl

theorem evo_out {op : Int} (h : ¬ (1 ≤ op ∧ op ≤ 16)) (b : Int) : evo op b = false := by unfold evo; rw [decide_eq_false h]; rfl

theorem ev_out {op : Int} (h : ¬ (1 ≤ op ∧ op ≤ 16)) (a b i : Int) : ev op a b i = 0 := by
  unfold ev
  rw [evo_out h, if_neg (by omega), if_neg (by omega), if_neg (by omega), if_neg (by omega)]
  rfl

theorem evo_88 : evo 8 0 = false := rfl

theorem evo_90 : evo 9 0 = false := rfl

theorem ev_80 (a i : Int) : ev 8 a 0 i = 0 := rfl

theorem ev_90 (a i : Int) : ev 9 a 0 i = 0 := rfl

end Go.Proofs.Ytncigbpeempnfaa

/-
  Runs of source functions as data: a step, many steps, and what stays true of them.
-/
namespace Go.Proofs.Ytncigbpeempnfaa
open Go.RowKit
set_option linter.unusedVariables false

structure Rn where
  st : Int
  blk : Nat
  pos : Nat
  val : Int
  regs : List Int
  trace : List Int
  steps : Nat

def rg (l : List Int) (k : Int) : Int := l.getD k.toNat 0

def blkAt (bs : List Blk) (k : Nat) : Blk := bs.getD k ⟨[], ⟨0, 0, 0, 0⟩⟩

/-- Performing an instruction; leaving a block; a step. -/
def perf (i : In) (r : Rn) : Rn :=
  if i.op = 17 then { r with trace := r.trace ++ [rg r.regs i.a], pos := r.pos + 1, steps := r.steps + 1 }
  else if evo i.op (rg r.regs i.b) = true then { r with regs := r.regs.set i.d.toNat (ev i.op (rg r.regs i.a) (rg r.regs i.b) i.imm), pos := r.pos + 1, steps := r.steps + 1 }
  else { r with st := 2 }

def leav (t : Tm) (r : Rn) : Rn :=
  if t.kind = 3 then { r with st := 1, val := rg r.regs t.a, steps := r.steps + 1 }
  else { r with blk := if t.kind = 2 ∧ rg r.regs t.a = 0 then t.el.toNat else t.to.toNat, pos := 0, steps := r.steps + 1 }

def stepR (bs : List Blk) (r : Rn) : Rn :=
  if r.st = 0 then if h : r.pos < (blkAt bs r.blk).code.length then perf ((blkAt bs r.blk).code[r.pos]) r else leav (blkAt bs r.blk).term r else r

def runR (bs : List Blk) (r : Rn) : Nat → Rn
  | 0 => r
  | n + 1 => stepR bs (runR bs r n)

def rn0 (regs : Nat) (args : List Int) : Rn := ⟨0, 0, 0, 0, args ++ List.replicate (regs - args.length) 0, [], 0⟩

/-- What a valid function's instructions and terminators are. -/
def InOk (regs : Nat) (x : In) : Prop := InI x.imm ∧ 0 ≤ x.a ∧ x.a < regs ∧ (x.op = 17 ∨ (¬ x.op = 17 ∧ 0 ≤ x.d ∧ x.d < regs ∧ 0 ≤ x.b ∧ x.b < regs))

def TmOk (regs n : Nat) (t : Tm) : Prop := (t.kind = 1 ∧ 0 ≤ t.to ∧ t.to < n) ∨ (t.kind = 2 ∧ 0 ≤ t.a ∧ t.a < regs ∧ 0 ≤ t.to ∧ t.to < n ∧ 0 ≤ t.el ∧ t.el < n) ∨ (t.kind = 3 ∧ 0 ≤ t.a ∧ t.a < regs)

structure OkF (regs : Nat) (bs : List Blk) : Prop where
  ne : 0 < bs.length
  ins : ∀ b ∈ bs, ∀ i ∈ b.code, InOk regs i
  tm : ∀ b ∈ bs, TmOk regs bs.length b.term

structure Good (regs : Nat) (bs : List Blk) (r : Rn) : Prop where
  blk : r.blk < bs.length
  pos : r.pos ≤ (blkAt bs r.blk).code.length
  len : r.regs.length = regs
  wf : ∀ v ∈ r.regs, InI v
  tr : r.trace.length ≤ r.steps

theorem blkAt_lt {bs : List Blk} {k : Nat} (h : k < bs.length) : blkAt bs k = bs[k] := by simp [blkAt, List.getD, h]

theorem blkAt_mem {bs : List Blk} {k : Nat} (h : k < bs.length) : blkAt bs k ∈ bs := by rw [blkAt_lt h]; exact List.getElem_mem h

theorem rg_mem {l : List Int} {k : Int} (h0 : 0 ≤ k) (h1 : k < l.length) : rg l k ∈ l := by
  have h : k.toNat < l.length := by omega
  simp [rg, List.getD, h]

theorem rg_nat {l : List Int} {k : Nat} (h : k < l.length) : rg l (k : Int) = l[k] := by simp [rg, List.getD, h]

theorem fR_in {n : Int} {b : Bool} {v : Int} (h : fR n (b, v) = true) (hb : b = true) : 0 ≤ v ∧ v < n := by
  subst hb
  simp [fR] at h
  omega

theorem fZ_in {b : Bool} {v : Int} (h : fZ (b, v) = true) (hb : b = false) : v = 0 := by
  subst hb
  simpa [fZ] using h

theorem eI_ok {x : In} {regs : Nat} (h : eI x regs = 0) (hw : x.Wf) : InOk regs x := by
  have hi : InI x.imm := i64_of_wf hw.2.2.2.2
  unfold eI at h
  split at h
  · rename_i hO
    split at h
    · rename_i hR
      split at h
      · rename_i hZ
        simp only [In.regF, okR, List.all_cons, List.all_nil, Bool.and_true, Bool.and_eq_true] at hR
        simp only [In.allF, okZ, List.all_cons, List.all_nil, Bool.and_true, Bool.and_eq_true] at hZ
        obtain ⟨r1, r2, r3⟩ := hR
        obtain ⟨z1, z2, z3, z4⟩ := hZ
        simp [srcO, uO] at hO
        by_cases h17 : x.op = 17
        · have := fR_in r2 (by simp [uA]; omega)
          exact ⟨hi, this.1, this.2, .inl h17⟩
        · have hD := fR_in r1 (by simp [uD]; omega)
          have hA : 0 ≤ x.a ∧ x.a < regs := by
            by_cases hu : uA x.op = true
            · exact fR_in r2 hu
            · have := fZ_in z2 (by simpa using hu); omega
          have hB : 0 ≤ x.b ∧ x.b < regs := by
            by_cases hu : uB x.op = true
            · exact fR_in r3 hu
            · have := fZ_in z3 (by simpa using hu); omega
          exact ⟨hi, hA.1, hA.2, .inr ⟨h17, hD.1, hD.2, hB.1, hB.2⟩⟩
      · cases h
    · cases h
  · cases h

theorem eT_ok {t : Tm} {regs n : Nat} (h : eT t regs n = 0) : TmOk regs n t := by
  unfold eT at h
  split at h
  · rename_i hO
    split at h
    · rename_i hR
      split at h
      · rename_i hZ
        simp only [Tm.aF, okR, List.all_cons, List.all_nil, Bool.and_true] at hR
        simp only [Tm.toF, okR, List.all_cons, List.all_nil, Bool.and_true, Bool.and_eq_true] at hZ
        simp [kO] at hO
        rcases hO with (h1 | h2) | h3
        · have := fR_in hZ.1 (by simp [h1])
          exact .inl ⟨h1, this.1, this.2⟩
        · have r1 := fR_in hR (by simp [h2])
          have r2 := fR_in hZ.1 (by simp [h2])
          have r3 := fR_in hZ.2 (by simp [h2])
          exact .inr (.inl ⟨h2, r1.1, r1.2, r2.1, r2.2, r3.1, r3.2⟩)
        · have := fR_in hR (by simp [h3])
          exact .inr (.inr ⟨h3, this.1, this.2⟩)
      · cases h
    · cases h
  · cases h

theorem eIs_ok {regs : Nat} : ∀ {l : List In}, eIs regs l = 0 → (∀ y ∈ l, y.Wf) → ∀ y ∈ l, InOk regs y
  | [], _, _, y, hy => by simp at hy
  | x :: r, h, hw, y, hy => by
    unfold eIs at h
    split at h
    · rename_i hx
      rcases List.mem_cons.1 hy with rfl | hy
      · exact eI_ok hx (hw _ (by simp))
      · exact eIs_ok h (fun z hz => hw z (by simp [hz])) y hy
    · rename_i hx; exact absurd h hx

theorem eBs_ok {regs n : Nat} : ∀ {l : List Blk}, eBs regs n l = 0 → (∀ y ∈ l, y.Wf) → (∀ b ∈ l, ∀ i ∈ b.code, InOk regs i) ∧ ∀ b ∈ l, TmOk regs n b.term
  | [], _, _ => ⟨fun b hb => by simp at hb, fun b hb => by simp at hb⟩
  | x :: r, h, hw => by
    unfold eBs at h
    split at h
    · rename_i hx
      obtain ⟨h1, h2⟩ := eBs_ok h (fun z hz => hw z (by simp [hz]))
      unfold eB at hx
      split at hx
      · rename_i hi
        have hxw := hw x (by simp)
        refine ⟨fun b hb i him => ?_, fun b hb => ?_⟩
        · rcases List.mem_cons.1 hb with rfl | hb
          · exact eIs_ok hi hxw.1 i him
          · exact h1 b hb i him
        · rcases List.mem_cons.1 hb with rfl | hb
          · exact eT_ok hx
          · exact h2 b hb
      · rename_i hi; exact absurd hx hi
    · rename_i hx; exact absurd h hx

/-- What Check's acceptance says. -/
theorem eF_ok {args regs : Int} {bs : List Blk} (h : eF args regs bs = 0) (hw : ∀ y ∈ bs, y.Wf) : ∃ n : Nat, regs = n ∧ 0 ≤ args ∧ args ≤ n ∧ OkF n bs := by
  unfold eF at h
  split at h
  · rename_i hz
    unfold eSz at hz
    split at hz
    · cases hz
    · rename_i h1
      split at hz
      · cases hz
      · split at hz
        · cases hz
        · rename_i h3
          obtain ⟨n, rfl⟩ := Int.eq_ofNat_of_zero_le (show 0 ≤ regs by omega)
          obtain ⟨g1, g2⟩ := eBs_ok h hw
          exact ⟨n, rfl, by omega, by omega, ⟨by omega, g1, g2⟩⟩
  · rename_i hz; exact absurd h hz

theorem tr_in (b : Bool) : InI (tr b) := by cases b <;> (unfold InI; decide)

theorem tmod_in {a : Int} (h : InI a) (b : Int) : InI (a.tmod b) := by
  unfold InI at *
  have h1 : (a.tmod b).natAbs ≤ a.natAbs := by rw [Int.natAbs_tmod]; exact Nat.mod_le _ _
  by_cases h0 : 0 ≤ a
  · have := Int.tmod_nonneg b h0
    omega
  · have h2 := Int.tmod_nonneg b (show 0 ≤ -a by omega)
    rw [Int.neg_tmod] at h2
    omega

theorem div_in {a : Int} (h : InI a) (c : Nat) : InI (a / 2 ^ c) := by
  unfold InI at *
  have hd : (0 : Int) < 2 ^ c := Int.pow_pos (by decide)
  generalize (2 : Int) ^ c = d at *
  by_cases h0 : 0 ≤ a
  · have := Int.ediv_nonneg h0 (show 0 ≤ d by omega)
    have := Int.ediv_le_self d h0
    omega
  · have h1 : a ≤ a / d := by
      apply (Int.le_ediv_iff_mul_le (by omega)).2
      have := Int.mul_le_mul_of_nonpos_left (a := a) (b := d) (c := 1) (by omega) (by omega)
      omega
    have h2 : a / d < 0 := Int.ediv_neg_of_neg_of_pos (by omega) (by omega)
    omega

theorem if_in {p : Prop} [Decidable p] {x y : Int} (hx : InI x) (hy : InI y) : InI (if p then x else y) := by
  by_cases h : p
  · rw [if_pos h]; exact hx
  · rw [if_neg h]; exact hy

theorem bin_in {op a b : Int} (ha : InI a) (hb : InI b) : InI (bin op a b) := by
  unfold bin
  refine if_in (w64_in _) (if_in (w64_in _) (if_in (w64_in _) (if_in (w64_in _) (if_in (tmod_in ha _) (if_in ?_ (if_in ?_ (if_in ?_ (if_in (w64_in _) (if_in (div_in ha _) (if_in (tr_in _) (tr_in _)))))))))))
  · rw [(bits_ub a b).1]; exact w64_in _
  · rw [(bits_ub a b).2.1]; exact w64_in _
  · rw [(bits_ub a b).2.2]; exact w64_in _

theorem ev_in {op a b imm : Int} (ha : InI a) (hb : InI b) (hi : InI imm) : InI (ev op a b imm) := by
  unfold ev
  have h0 : InI 0 := by unfold InI; decide
  have h4 : InI (-a - 1) := by unfold InI at *; omega
  exact if_in hi (if_in ha (if_in (w64_in _) (if_in h4 (if_in (bin_in ha hb) h0))))

section
variable {regs : Nat} {bs : List Blk} {r : Rn}

theorem Good.reg (h : Good regs bs r) {k : Int} (h0 : 0 ≤ k) (h1 : k < regs) : InI (rg r.regs k) := h.wf _ (rg_mem h0 (by rw [h.len]; exact h1))

theorem perf_good (h : Good regs bs r) (hF : OkF regs bs) (hp : r.pos < (blkAt bs r.blk).code.length) {i : In} (hi : InOk regs i) : Good regs bs (perf i r) := by
  unfold perf
  split
  · exact ⟨h.blk, hp, h.len, h.wf, by show (r.trace ++ [_]).length ≤ r.steps + 1; rw [List.length_append]; exact Nat.succ_le_succ h.tr⟩
  · rename_i h17
    split
    · refine ⟨h.blk, hp, by rw [List.length_set]; exact h.len, fun v hv => ?_, Nat.le_succ_of_le h.tr⟩
      rcases List.mem_or_eq_of_mem_set hv with hv | rfl
      · exact h.wf v hv
      · rcases hi.2.2.2 with h1 | ⟨_, h1, h2, h3, h4⟩
        · exact absurd h1 h17
        · exact ev_in (h.reg hi.2.1 hi.2.2.1) (h.reg h3 h4) hi.1
    · exact ⟨h.blk, h.pos, h.len, h.wf, h.tr⟩

theorem leav_good (h : Good regs bs r) {t : Tm} (ht : TmOk regs bs.length t) : Good regs bs (leav t r) := by
  unfold leav
  split
  · exact ⟨h.blk, h.pos, h.len, h.wf, Nat.le_succ_of_le h.tr⟩
  · rename_i h3
    refine ⟨?_, Nat.zero_le _, h.len, h.wf, Nat.le_succ_of_le h.tr⟩
    show (if t.kind = 2 ∧ rg r.regs t.a = 0 then t.el.toNat else t.to.toNat) < bs.length
    rcases ht with ⟨e, h1, h2⟩ | ⟨e, h1, h2, h4, h5, h6, h7⟩ | ⟨e, h1, h2⟩
    · rw [if_neg (fun h => by omega)]
      have : t.to.toNat < bs.length := by clear h3; omega
      exact this
    · have g1 : t.to.toNat < bs.length := by clear h3; omega
      have g2 : t.el.toNat < bs.length := by clear h3; omega
      split
      · exact g2
      · exact g1
    · exact absurd e h3

theorem step_good (hF : OkF regs bs) (h : Good regs bs r) : Good regs bs (stepR bs r) := by
  unfold stepR
  split
  · split
    · rename_i hp
      exact perf_good h hF hp (hF.ins _ (blkAt_mem h.blk) _ (List.getElem_mem hp))
    · exact leav_good h (hF.tm _ (blkAt_mem h.blk))
  · exact h

theorem run_good (hF : OkF regs bs) (h : Good regs bs r) : ∀ n, Good regs bs (runR bs r n)
  | 0 => h
  | n + 1 => step_good hF (run_good hF h n)

theorem start_good {args : List Int} (hF : OkF regs bs) (hl : args.length ≤ regs) (hw : ∀ v ∈ args, InI v) : Good regs bs (rn0 regs args) :=
  ⟨hF.ne, Nat.zero_le _, by simp [rn0]; omega, fun v hv => by
    rcases List.mem_append.1 hv with hv | hv
    · exact hw v hv
    · rw [(List.mem_replicate.1 hv).2]; unfold InI; decide, Nat.le_refl _⟩

theorem perf_steps (i : In) (r : Rn) : ((perf i r).st = 2 ∧ (perf i r).steps = r.steps ∨ (perf i r).st = r.st ∧ (perf i r).steps = r.steps + 1) ∧ ∃ l, (perf i r).trace = r.trace ++ l := by
  unfold perf
  split
  · exact ⟨.inr ⟨rfl, rfl⟩, [_], rfl⟩
  · split
    · exact ⟨.inr ⟨rfl, rfl⟩, [], by simp⟩
    · exact ⟨.inl ⟨rfl, rfl⟩, [], by simp⟩

theorem leav_steps (t : Tm) (r : Rn) : ((leav t r).st = 1 ∨ (leav t r).st = r.st) ∧ (leav t r).steps = r.steps + 1 ∧ (leav t r).trace = r.trace := by
  unfold leav
  split
  · exact ⟨.inl rfl, rfl, rfl⟩
  · exact ⟨.inr rfl, rfl, rfl⟩

theorem stepR_stop {bs : List Blk} {r : Rn} (h : ¬ r.st = 0) : stepR bs r = r := by rw [stepR, if_neg h]

theorem stepR_steps (bs : List Blk) (r : Rn) : (stepR bs r).steps ≤ r.steps + 1 ∧ ((stepR bs r).st = 0 → r.st = 0 ∧ (stepR bs r).steps = r.steps + 1) ∧ ∃ l, (stepR bs r).trace = r.trace ++ l := by
  by_cases h : r.st = 0
  · rw [stepR, if_pos h]
    split
    · rename_i hp
      obtain ⟨h1, h2⟩ := perf_steps ((blkAt bs r.blk).code[r.pos]) r
      refine ⟨by omega, fun h0 => ⟨h, by omega⟩, h2⟩
    · obtain ⟨h1, h2, h3⟩ := leav_steps (blkAt bs r.blk).term r
      exact ⟨by omega, fun h0 => ⟨h, h2⟩, [], by rw [h3]; simp⟩
  · rw [stepR_stop h]
    exact ⟨by omega, fun h0 => absurd h0 h, [], by simp⟩

theorem stepR_pre (bs : List Blk) (r : Rn) : (stepR bs r).steps ≤ r.steps + 1 ∧ r.steps ≤ (stepR bs r).steps := by
  refine ⟨(stepR_steps bs r).1, ?_⟩
  by_cases h : r.st = 0
  · rw [stepR, if_pos h]
    split
    · rename_i hp
      have := (perf_steps ((blkAt bs r.blk).code[r.pos]) r).1
      omega
    · have := (leav_steps (blkAt bs r.blk).term r).2.1
      omega
  · rw [stepR_stop h]; exact Nat.le_refl _

theorem run_steps (bs : List Blk) (r : Rn) : ∀ n, (runR bs r n).steps ≤ r.steps + n ∧ r.steps ≤ (runR bs r n).steps ∧ ((runR bs r n).st = 0 → (runR bs r n).steps = r.steps + n)
  | 0 => ⟨Nat.le_refl _, Nat.le_refl _, fun _ => rfl⟩
  | n + 1 => by
    obtain ⟨h1, h2, h3⟩ := run_steps bs r n
    obtain ⟨g1, g2, _⟩ := stepR_steps bs (runR bs r n)
    have g3 := (stepR_pre bs (runR bs r n)).2
    refine ⟨?_, ?_, fun h0 => ?_⟩
    · show (stepR bs (runR bs r n)).steps ≤ _
      omega
    · show _ ≤ (stepR bs (runR bs r n)).steps
      omega
    · obtain ⟨k1, k2⟩ := g2 h0
      have := h3 k1
      show (stepR bs (runR bs r n)).steps = _
      omega

theorem run_stop (bs : List Blk) (r : Rn) {n : Nat} (h : ¬ (runR bs r n).st = 0) : ∀ k, runR bs r (n + k) = runR bs r n
  | 0 => rfl
  | k + 1 => by
    show stepR bs (runR bs r (n + k)) = _
    rw [run_stop bs r h k, stepR_stop h]

theorem run_pre (bs : List Blk) (r : Rn) (n : Nat) : ∀ k, ∃ l, (runR bs r (n + k)).trace = (runR bs r n).trace ++ l
  | 0 => ⟨[], by simp⟩
  | k + 1 => by
    obtain ⟨l, hl⟩ := run_pre bs r n k
    obtain ⟨l2, hl2⟩ := (stepR_steps bs (runR bs r (n + k))).2.2
    refine ⟨l ++ l2, ?_⟩
    show (stepR bs (runR bs r (n + k))).trace = _
    rw [hl2, hl, List.append_assoc]

theorem run_mono (bs : List Blk) (r : Rn) (n : Nat) : ∀ k, (runR bs r n).steps ≤ (runR bs r (n + k)).steps
  | 0 => Nat.le_refl _
  | k + 1 => Nat.le_trans (run_mono bs r n k) (stepR_pre bs (runR bs r (n + k))).2

end

end Go.Proofs.Ytncigbpeempnfaa

/-
  The program's and the reference's InRange of layer 4, without its texts (for seats that read no table).
-/
namespace Go.Proofs.Ytncigbpeempnfaa
open Go.RowKit
set_option linter.unusedVariables false

/-- Whether a location is in range. -/
def locS (l r s : Int) : Bool := if l < 0 then false else if l % 2 = 1 then decide (l / 2 < s) else decide (l / 2 < r)

theorem locS_nn {l r s : Int} (h : locS l r s = true) : 0 ≤ l := by
  unfold locS at h
  by_cases h0 : l < 0
  · rw [if_pos h0] at h; cases h
  · omega

/-- A number that fits. -/
def Fits (l : Int) : Prop := -9223372036854775808 ≤ l ∧ l ≤ 9223372036854775807

end Go.Proofs.Ytncigbpeempnfaa

/-
  Machine instructions, blocks and functions of allocated code as data, and what memory shows of them.
-/
namespace Go.Proofs.Ytncigbpeempnfaa
open Go.RowKit
set_option linter.unusedVariables false

structure Mi where
  op : Int
  d : Int
  a : Int
  b : Int
  imm : Int
  dst : Int
  src : Int

structure MBlk where
  code : List Mi
  term : Tm

def Mi.cells (x : Mi) : List Value := [.int .i64 x.op, .int .i64 x.d, .int .i64 x.a, .int .i64 x.b, .int .i64 x.imm, .int .i64 x.dst, .int .i64 x.src]

def Mi.ins (x : Mi) : In := ⟨x.op, x.d, x.a, x.b, x.imm⟩

def Mi.Ok (x : Mi) : Prop := Fits x.dst ∧ Fits x.src

/-- An instruction's seven cells; its locations fit. -/
structure Mi.At (w : World) (b o : Nat) (x : Mi) : Prop where
  ok : x.Ok
  c0 : w.cell? ⟨b, o, none⟩ = some (.int .i64 x.op)
  c1 : w.cell? ⟨b, o + 1, none⟩ = some (.int .i64 x.d)
  c2 : w.cell? ⟨b, o + 2, none⟩ = some (.int .i64 x.a)
  c3 : w.cell? ⟨b, o + 3, none⟩ = some (.int .i64 x.b)
  c4 : w.cell? ⟨b, o + 4, none⟩ = some (.int .i64 x.imm)
  c5 : w.cell? ⟨b, o + 5, none⟩ = some (.int .i64 x.dst)
  c6 : w.cell? ⟨b, o + 6, none⟩ = some (.int .i64 x.src)

/-- The slice address A shows these instructions, below block B. -/
def MisAt (w : World) (B : Nat) (A : Option Addr) (xs : List Mi) : Prop :=
  xs ≠ [] → ∃ b o, A = some ⟨b, o, none⟩ ∧ b < B ∧ ∀ (i : Nat) (x : Mi), xs[i]? = some x → x.At w b (o + i * 7)

/-- A block's five cells, and its instructions. -/
structure MBlk.At (w : World) (B : Nat) (b o : Nat) (x : MBlk) : Prop where
  code : ∃ A c, w.cell? ⟨b, o, none⟩ = some (.slice A x.code.length c) ∧ x.code.length ≤ c ∧ c ≤ maxLen ∧ MisAt w B A x.code
  t0 : w.cell? ⟨b, o + 1, none⟩ = some (.int .i64 x.term.kind)
  t1 : w.cell? ⟨b, o + 2, none⟩ = some (.int .i64 x.term.a)
  t2 : w.cell? ⟨b, o + 3, none⟩ = some (.int .i64 x.term.to)
  t3 : w.cell? ⟨b, o + 4, none⟩ = some (.int .i64 x.term.el)

/-- The slice address A shows these blocks, below block B. -/
def MBlksAt (w : World) (B : Nat) (A : Option Addr) (xs : List MBlk) : Prop :=
  xs ≠ [] → ∃ b o, A = some ⟨b, o, none⟩ ∧ b < B ∧ ∀ (i : Nat) (x : MBlk), xs[i]? = some x → x.At w B b (o + i * 5)

section
variable {w w' : World} {B B' : Nat} {A : Option Addr} {b o : Nat}

theorem Mi.At.keep {x : Mi} (h : x.At w b o) (hb : b < B) (hk : ∀ p : Addr, p.block < B → w'.cell? p = w.cell? p) : x.At w' b o :=
  ⟨h.ok, (hk ⟨b, _, none⟩ hb).trans h.c0, (hk ⟨b, _, none⟩ hb).trans h.c1, (hk ⟨b, _, none⟩ hb).trans h.c2, (hk ⟨b, _, none⟩ hb).trans h.c3, (hk ⟨b, _, none⟩ hb).trans h.c4, (hk ⟨b, _, none⟩ hb).trans h.c5, (hk ⟨b, _, none⟩ hb).trans h.c6⟩

theorem MisAt.nil : MisAt w B A [] := fun h => absurd rfl h

theorem MisAt.keep {xs : List Mi} (h : MisAt w B A xs) (hk : ∀ p : Addr, p.block < B → w'.cell? p = w.cell? p) : MisAt w' B A xs := fun hn => by
  obtain ⟨b, o, e, hb, hc⟩ := h hn
  exact ⟨b, o, e, hb, fun i x hx => (hc i x hx).keep hb hk⟩

theorem MisAt.more {xs : List Mi} (h : MisAt w B A xs) (hB : B ≤ B') : MisAt w B' A xs := fun hn => by
  obtain ⟨b, o, e, hb, hc⟩ := h hn
  exact ⟨b, o, e, by omega, hc⟩

theorem MisAt.at_ {xs : List Mi} (h : MisAt w B A xs) {i : Nat} (hi : i < xs.length) : ∃ b o, A = some ⟨b, o, none⟩ ∧ b < B ∧ xs[i].At w b (o + i * 7) := by
  obtain ⟨b, o, e, hb, hc⟩ := h (by intro e; subst e; simp at hi)
  exact ⟨b, o, e, hb, hc i _ (List.getElem?_eq_getElem hi)⟩

theorem MisAt.below {xs : List Mi} (h : MisAt w B A xs) (hb : Below B w w') : MisAt w' B A xs := h.keep fun _ hp => hb.cell hp

theorem MisAt.alloc {xs : List Mi} (h : MisAt w B A xs) (hB : B ≤ w.heap.size) (o : Obj) : MisAt (w.alloc o) B A xs := h.keep fun p hp => World.cell?_alloc_lt w o p (by omega)

theorem MisAt.take {xs : List Mi} (h : MisAt w B A xs) (k : Nat) : MisAt w B A (xs.take k) := fun hn => by
  obtain ⟨b, o, e, hb, hc⟩ := h (by intro e; subst e; simp at hn)
  refine ⟨b, o, e, hb, fun i x hx => hc i x ?_⟩
  rw [List.getElem?_take] at hx
  split at hx
  · exact hx
  · cases hx

/-- The cut of a slice from k on: its address as the model writes it. -/
theorem MisAt.drop {xs : List Mi} {b o : Nat} (h : MisAt w B (some ⟨b, o, none⟩) xs) (k : Nat) : MisAt w B (some ⟨b, o + k * 7, none⟩) (xs.drop k) := fun hn => by
  obtain ⟨b', o', e, hb, hc⟩ := h (by intro e; subst e; simp at hn)
  injection e with e
  injection e with e1 e2
  subst e1
  subst e2
  refine ⟨b, o + k * 7, rfl, hb, fun i x hx => ?_⟩
  rw [List.getElem?_drop] at hx
  have := hc _ x hx
  rwa [show o + (k + i) * 7 = o + k * 7 + i * 7 by omega] at this

theorem MBlk.At.keep {x : MBlk} (h : x.At w B b o) (hb : b < B) (hk : ∀ p : Addr, p.block < B → w'.cell? p = w.cell? p) : x.At w' B b o where
  code := by
    obtain ⟨A, c, h1, h2, h3, h4⟩ := h.code
    exact ⟨A, c, (hk ⟨b, _, none⟩ hb).trans h1, h2, h3, h4.keep hk⟩
  t0 := (hk ⟨b, _, none⟩ hb).trans h.t0
  t1 := (hk ⟨b, _, none⟩ hb).trans h.t1
  t2 := (hk ⟨b, _, none⟩ hb).trans h.t2
  t3 := (hk ⟨b, _, none⟩ hb).trans h.t3

theorem MBlk.At.more {x : MBlk} (h : x.At w B b o) (hB : B ≤ B') : x.At w B' b o := { h with
  code := by
    obtain ⟨A, c, h1, h2, h3, h4⟩ := h.code
    exact ⟨A, c, h1, h2, h3, h4.more hB⟩ }

theorem MBlksAt.nil : MBlksAt w B A [] := fun h => absurd rfl h

theorem MBlksAt.keep {xs : List MBlk} (h : MBlksAt w B A xs) (hk : ∀ p : Addr, p.block < B → w'.cell? p = w.cell? p) : MBlksAt w' B A xs := fun hn => by
  obtain ⟨b, o, e, hb, hc⟩ := h hn
  exact ⟨b, o, e, hb, fun i x hx => (hc i x hx).keep hb hk⟩

theorem MBlksAt.more {xs : List MBlk} (h : MBlksAt w B A xs) (hB : B ≤ B') : MBlksAt w B' A xs := fun hn => by
  obtain ⟨b, o, e, hb, hc⟩ := h hn
  exact ⟨b, o, e, by omega, fun i x hx => (hc i x hx).more hB⟩

theorem MBlksAt.below {xs : List MBlk} (h : MBlksAt w B A xs) (hb : Below B w w') : MBlksAt w' B A xs := h.keep fun _ hp => hb.cell hp

theorem MBlksAt.drewN {xs : List MBlk} (h : MBlksAt w B A xs) (n : Nat) : MBlksAt (w.drewN n) B A xs := h.keep fun _ _ => rfl

theorem MBlksAt.alloc {xs : List MBlk} (h : MBlksAt w B A xs) (hB : B ≤ w.heap.size) (o : Obj) : MBlksAt (w.alloc o) B A xs := h.keep fun p hp => World.cell?_alloc_lt w o p (by omega)

theorem MBlksAt.at_ {xs : List MBlk} (h : MBlksAt w B A xs) {i : Nat} (hi : i < xs.length) : ∃ b o, A = some ⟨b, o, none⟩ ∧ b < B ∧ xs[i].At w B b (o + i * 5) := by
  obtain ⟨b, o, e, hb, hc⟩ := h (by intro e; subst e; simp at hi)
  exact ⟨b, o, e, hb, hc i _ (List.getElem?_eq_getElem hi)⟩

end

end Go.Proofs.Ytncigbpeempnfaa

/-
  What layer 8 answers, as functions on data.
-/
namespace Go.Proofs.Ytncigbpeempnfaa
open Go.RowKit

def mopc (op : Int) : Bool := uO op && !(op == 2)

def Mi.mv (x : Mi) : Bool := x.op == 18

/-- Whether a field of a move is used that must be 0. -/
def Mi.zf (x : Mi) : Bool := x.d != 0 || x.a != 0 || x.b != 0 || x.imm != 0

def Mi.bad (x : Mi) (regs slots : Int) : Bool := !locS x.dst regs slots || !locS x.src regs slots || (decide (x.dst % 2 = 1) && decide (x.src % 2 = 1))

/-- The error of a move; of another instruction; of any. -/
def eMv (x : Mi) (regs slots : Int) : Int := if x.bad regs slots then 10 else if x.zf then 12 else 0

def eOt (x : Mi) (regs : Int) : Int := if (eI x.ins regs == 0 && (x.dst != 0 || x.src != 0)) then 12 else eI x.ins regs

def eM (x : Mi) (regs slots : Int) : Int := if mopc x.op then if x.mv then eMv x regs slots else eOt x regs else 8

/-- The number of moves at the beginning; in the longest run; at the end. -/
def lead : List Mi → Nat
  | [] => 0
  | x :: r => if x.mv then lead r + 1 else 0

def mvs : List Mi → Nat
  | [] => 0
  | x :: r => max (lead (x :: r)) (mvs r)

def ext (run : Nat) (x : Mi) : Nat := if x.mv then run + 1 else 0

def trail (l : List Mi) : Nat := l.foldl ext 0

theorem lead_le : ∀ l : List Mi, lead l ≤ l.length
  | [] => Nat.le_refl _
  | x :: r => by
    have := lead_le r
    rw [lead]
    split <;> simp <;> omega

theorem lead_mvs (l : List Mi) : lead l ≤ mvs l := by
  cases l with
  | nil => exact Nat.le_refl _
  | cons x r => exact Nat.le_max_left _ _

theorem mvs_le : ∀ l : List Mi, mvs l ≤ l.length
  | [] => Nat.le_refl _
  | x :: r => by
    have := mvs_le r
    have := lead_le (x :: r)
    rw [mvs]
    simp only [List.length_cons] at *
    omega

theorem trail_snoc (l : List Mi) (x : Mi) : trail (l ++ [x]) = ext (trail l) x := by simp [trail, List.foldl_append]

theorem trail_step (l : List Mi) (k : Nat) (h : k < l.length) : trail (l.take (k + 1)) = ext (trail (l.take k)) l[k] := by
  rw [List.take_succ_eq_append_getElem h, trail_snoc]

theorem ext_le (n : Nat) (x : Mi) : ext n x ≤ n + 1 := by
  unfold ext
  split <;> omega

theorem trail_le (l : List Mi) : trail l ≤ l.length := by
  have : ∀ (l : List Mi) (n : Nat), l.foldl ext n ≤ n + l.length := by
    intro l
    induction l with
    | nil => intro n; exact Nat.le_refl _
    | cons x r ih =>
      intro n
      have h1 := ih (ext n x)
      have h2 := ext_le n x
      simp only [List.foldl_cons, List.length_cons]
      omega
  have := this l 0
  unfold trail
  omega

/-- The scan of a list from the left, by the run so far and the longest run so far. -/
theorem scan_step (run longest : Nat) (x : Mi) (r : List Mi) (h : run ≤ longest) :
    max longest (max (run + lead (x :: r)) (mvs (x :: r))) = max (max longest (ext run x)) (max (ext run x + lead r) (mvs r)) := by
  have := lead_mvs r
  rw [mvs, lead]
  unfold ext
  split
  · omega
  · omega

/-- The reference's look at the last 65 instructions. -/
theorem lead_all (l : List Mi) : lead l = l.length ↔ ∀ x ∈ l, x.mv = true := by
  induction l with
  | nil => simp [lead]
  | cons x r ih =>
    rw [lead, List.length_cons]
    cases hx : x.mv
    · simp [hx]
    · simp only [if_true]
      constructor
      · intro h y hy
        rcases List.mem_cons.1 hy with rfl | h2
        · exact hx
        · exact ih.1 (by omega) y h2
      · intro h
        rw [ih.2 fun y hy => h y (List.mem_cons_of_mem _ hy)]

theorem mvs_all (l : List Mi) : mvs l = l.length ↔ ∀ x ∈ l, x.mv = true := by
  cases l with
  | nil => simp [mvs]
  | cons x r =>
    rw [← lead_all]
    have h1 := mvs_le r
    have h2 := lead_le (x :: r)
    rw [mvs]
    simp only [List.length_cons] at *
    omega

theorem trail_all : ∀ (l : List Mi) (j : Nat), j ≤ trail l ↔ j ≤ l.length ∧ ∀ x ∈ l.drop (l.length - j), x.mv = true := by
  intro l
  have : ∀ n (l : List Mi), l.length = n → ∀ j, j ≤ trail l ↔ j ≤ l.length ∧ ∀ x ∈ l.drop (l.length - j), x.mv = true := by
    intro n
    induction n with
    | zero =>
      intro l hl j
      rw [List.eq_nil_of_length_eq_zero hl]
      simp [trail]
    | succ n ih =>
      intro l hl j
      have hne : l ≠ [] := by intro e; subst e; simp at hl
      obtain ⟨r, x, rfl⟩ : ∃ r x, l = r ++ [x] := ⟨_, _, (List.dropLast_concat_getLast hne).symm⟩
      have hr : r.length = n := by simpa using hl
      rw [trail_snoc]
      unfold ext
      rcases j with _ | j
      · simp
      · have hd : (r ++ [x]).drop ((r ++ [x]).length - (j + 1)) = r.drop (r.length - j) ++ [x] := by
          rw [List.length_append, List.length_singleton, show r.length + 1 - (j + 1) = r.length - j by omega, List.drop_append_of_le_length (by omega)]
        rw [hd]
        have h := ih r hr j
        cases hx : x.mv
        · constructor
          · intro h0; simp at h0
          · rintro ⟨_, h0⟩
            have := h0 x (by simp)
            rw [hx] at this
            cases this
        · simp only [if_true]
          constructor
          · intro h0
            obtain ⟨h1, h2⟩ := h.1 (by omega)
            refine ⟨by simp; omega, fun y hy => ?_⟩
            rcases List.mem_append.1 hy with h3 | h3
            · exact h2 y h3
            · rw [List.mem_singleton.1 h3]; exact hx
          · rintro ⟨h1, h2⟩
            have := h.2 ⟨by simp at h1; omega, fun y hy => h2 y (List.mem_append_left _ hy)⟩
            omega
  exact this l.length l rfl

/-- Behind k instructions: more than 64 moves run up to here exactly if the last 65 instructions have more than 64 in a row. -/
theorem trail_window (l : List Mi) (k : Nat) (h : k < l.length) : 64 < trail (l.take (k + 1)) ↔ 64 ≤ k ∧ 64 < mvs ((l.take (k + 1)).drop (k - 64)) := by
  have h1 := trail_all (l.take (k + 1)) 65
  have hl : (l.take (k + 1)).length = k + 1 := by rw [List.length_take]; omega
  rw [hl] at h1
  constructor
  · intro h2
    obtain ⟨h3, h4⟩ := h1.1 (by omega)
    refine ⟨by omega, ?_⟩
    rw [show k + 1 - 65 = k - 64 by omega] at h4
    have := (mvs_all _).2 h4
    rw [List.length_drop, hl] at this
    omega
  · rintro ⟨h2, h3⟩
    have h4 := mvs_le ((l.take (k + 1)).drop (k - 64))
    rw [List.length_drop, hl] at h4
    have h5 := (mvs_all ((l.take (k + 1)).drop (k - 64))).1 (by rw [List.length_drop, hl]; omega)
    have := h1.2 ⟨by omega, by rw [show k + 1 - 65 = k - 64 by omega]; exact h5⟩
    omega

/-- The first error of instructions, behind a run of moves; of a block; of blocks. -/
def eCd (regs slots : Int) : Nat → List Mi → Int
  | _, [] => 0
  | run, x :: r => if eM x regs slots = 0 then if 64 < ext run x then 15 else eCd regs slots (ext run x) r else eM x regs slots

def eMB (x : MBlk) (regs slots n : Int) : Int := if eCd regs slots 0 x.code = 0 then eT x.term regs n else eCd regs slots 0 x.code

def eMBs (regs slots n : Int) : List MBlk → Int
  | [] => 0
  | x :: r => if eMB x regs slots n = 0 then eMBs regs slots n r else eMB x regs slots n

def mcodeN (bs : List MBlk) : Nat := (bs.map fun b => b.code.length).sum

/-- The first error of the sizes; of a function. -/
def eMSz (args regs slots : Int) (bs : List MBlk) : Int :=
  if args < 0 ∨ slots < args then 10 else if regs < 0 then 9 else if 1048576 < slots ∨ 1048576 < regs then 6 else if bs.length = 0 then 14 else if 1048576 < bs.length ∨ 1048576 < mcodeN bs then 6 else 0

def eMF (args regs slots : Int) (bs : List MBlk) : Int := if eMSz args regs slots bs = 0 then eMBs regs slots bs.length bs else eMSz args regs slots bs

theorem mcodeN_nil : mcodeN [] = 0 := rfl

theorem mcodeN_cons (b : MBlk) (bs : List MBlk) : mcodeN (b :: bs) = b.code.length + mcodeN bs := by simp [mcodeN]

theorem mcodeN_append (a b : List MBlk) : mcodeN (a ++ b) = mcodeN a + mcodeN b := by rw [mcodeN, List.map_append, List.sum_append]; rfl

theorem mcodeN_step (bs : List MBlk) (k : Nat) (h : k < bs.length) : mcodeN (bs.take (k + 1)) = mcodeN (bs.take k) + bs[k].code.length := by
  rw [List.take_succ_eq_append_getElem h, mcodeN_append, mcodeN_cons, mcodeN_nil, Nat.add_zero]

theorem mcodeN_take (bs : List MBlk) (k : Nat) : mcodeN (bs.take k) ≤ mcodeN bs := by
  have : mcodeN bs = mcodeN (bs.take k) + mcodeN (bs.drop k) := by rw [← mcodeN_append, List.take_append_drop]
  omega

theorem mcodeN_mem (bs : List MBlk) (k : Nat) (h : k < bs.length) : bs[k].code.length ≤ mcodeN bs := by
  have := mcodeN_step bs k h
  have := mcodeN_take bs (k + 1)
  omega

theorem eCd_step (regs slots : Int) (l : List Mi) (run k : Nat) (h : k < l.length) :
    eCd regs slots run (l.drop k) = if eM l[k] regs slots = 0 then if 64 < ext run l[k] then 15 else eCd regs slots (ext run l[k]) (l.drop (k + 1)) else eM l[k] regs slots := by
  rw [List.drop_eq_getElem_cons h]
  rfl

theorem eMBs_step (regs slots n : Int) (l : List MBlk) (k : Nat) (h : k < l.length) : eMBs regs slots n (l.drop k) = if eMB l[k] regs slots n = 0 then eMBs regs slots n (l.drop (k + 1)) else eMB l[k] regs slots n := by
  rw [List.drop_eq_getElem_cons h]
  rfl

/-- Instructions are accepted exactly if each is, and no run of moves is too long. -/
theorem eCd_ok (regs slots : Int) : ∀ (l : List Mi) (run : Nat), run ≤ 64 → (eCd regs slots run l = 0 ↔ (∀ x ∈ l, eM x regs slots = 0) ∧ run + lead l ≤ 64 ∧ mvs l ≤ 64)
  | [], run, h => by simp [eCd, lead, mvs, h]
  | x :: r, run, h => by
    have hm := lead_mvs r
    rw [eCd, mvs, lead]
    by_cases h0 : eM x regs slots = 0
    · rw [if_pos h0]
      by_cases h1 : 64 < ext run x
      · rw [if_pos h1]
        constructor
        · intro h2; cases h2
        · rintro ⟨_, h3, _⟩
          exfalso
          unfold ext at h1
          split at h1
          · rename_i hx; rw [if_pos hx] at h3; omega
          · omega
      · rw [if_neg h1, eCd_ok regs slots r (ext run x) (by omega)]
        unfold ext at h1 ⊢
        simp only [List.mem_cons, forall_eq_or_imp]
        split at h1
        · rename_i hx
          simp only [if_pos hx]
          constructor
          · rintro ⟨a, b, c⟩
            exact ⟨⟨h0, a⟩, by omega, by omega⟩
          · rintro ⟨⟨_, a⟩, b, c⟩
            exact ⟨a, by omega, by omega⟩
        · rename_i hx
          simp only [if_neg hx]
          constructor
          · rintro ⟨a, b, c⟩
            exact ⟨⟨h0, a⟩, by omega, by omega⟩
          · rintro ⟨⟨_, a⟩, b, c⟩
            exact ⟨a, by omega, by omega⟩
    · rw [if_neg h0]
      constructor
      · intro h2; exact absurd h2 h0
      · rintro ⟨h2, _⟩; exact absurd (h2 x (by simp)) h0

theorem eM_range (x : Mi) (regs slots : Int) : 0 ≤ eM x regs slots ∧ eM x regs slots ≤ 16 := by
  have := eI_range x.ins regs
  unfold eM eMv eOt
  repeat' split
  all_goals omega

theorem eCd_range (regs slots : Int) : ∀ (l : List Mi) (run : Nat), 0 ≤ eCd regs slots run l ∧ eCd regs slots run l ≤ 16
  | [], run => by rw [eCd]; decide
  | x :: r, run => by
    have := eM_range x regs slots
    have := eCd_range regs slots r (ext run x)
    rw [eCd]
    repeat' split
    all_goals omega

end Go.Proofs.Ytncigbpeempnfaa

/-
  Allocated functions and machine instructions as they come in.
-/
namespace Go.Proofs.Ytncigbpeempnfaa
open Go.RowKit Go.ChangeShapes Go.WideShapes Go.Deep
set_option linter.unusedVariables false
set_option maxRecDepth 100000

def Mi.Wf (x : Mi) : Prop := I64 x.op ∧ I64 x.d ∧ I64 x.a ∧ I64 x.b ∧ I64 x.imm ∧ I64 x.dst ∧ I64 x.src

def MBlk.Wf (x : MBlk) : Prop := (∀ y ∈ x.code, y.Wf) ∧ x.term.Wf

theorem I64.fits {x : Int} (h : I64 x) : Fits x := i64_of_wf h

theorem Mi.Wf.ok {x : Mi} (h : x.Wf) : x.Ok := ⟨h.2.2.2.2.2.1.fits, h.2.2.2.2.2.2.fits⟩

theorem len7 {α : Type} {l : List α} (h : l.length = 7) : ∃ a b c d e f g, l = [a, b, c, d, e, f, g] := by
  rcases l with _ | ⟨a, _ | ⟨b, _ | ⟨c, _ | ⟨d, _ | ⟨e, _ | ⟨f, _ | ⟨g, _ | ⟨i, r⟩⟩⟩⟩⟩⟩⟩⟩ <;> simp at h
  exact ⟨_, _, _, _, _, _, _, rfl⟩

/-- An allocated function as a value. -/
def IsMFn (w : World) (cs : Array Value) : Prop :=
  ∃ (args regs slots : Int) (A : Option Addr) (bs : List MBlk) (c : Nat), cs = #[.int .i64 args, .int .i64 regs, .int .i64 slots, .slice A bs.length c] ∧ I64 args ∧ I64 regs ∧ I64 slots ∧ bs.length ≤ c ∧ c ≤ maxLen ∧ MBlksAt w w.heap.size A bs ∧ ∀ y ∈ bs, y.Wf

def IsMi (w : World) (cs : Array Value) : Prop := ∃ x : Mi, cs = #[.int .i64 x.op, .int .i64 x.d, .int .i64 x.a, .int .i64 x.b, .int .i64 x.imm, .int .i64 x.dst, .int .i64 x.src] ∧ x.Wf

end Go.Proofs.Ytncigbpeempnfaa

/-
  Successors of both; the reference's Numbers.
-/
namespace Go.Proofs.Ytncigbpeempnfaa
open Go.RowKit
set_option linter.unusedVariables false

/-- A list of integers, in memory of its own. -/
def IntsP (w : World) (l : List Int) (e : Ending) (w' : World) : Prop := ∃ A c, e = .returned (.slice A l.length c) ∧ l.length ≤ c ∧ c ≤ maxLen ∧ Sees w' w'.heap.size A (ints l) ∧ Below w.heap.size w w'

theorem sees_new1 {W : World} {p : Nat} (hp : W.heap.size = p) (cs : Array Value) (t : TypeId) {xs : List Value} (hx : xs = cs.toList) : Sees (W.alloc (.cells cs t)) (W.alloc (.cells cs t)).heap.size (some ⟨p, 0, none⟩) xs := by
  subst hp
  subst hx
  exact (sees_new W cs t).more (by simp)

set_option maxRecDepth 100000 in
set_option maxHeartbeats 1000000 in
theorem succ_any (t : Tm) (w : World) :
    Calls Try.prog 49 #[.agg #[.int .i64 t.kind, .int .i64 t.a, .int .i64 t.to, .int .i64 t.el]] w (IntsP w (succs t)) := by
  have HB := Lib.hid ((Below.refl w.heap.size w).alloc (Nat.le_refl _) (.cells #[.int .i64 t.kind, .int .i64 t.a, .int .i64 t.to, .int .i64 t.el] 32))
  by_cases h1 : t.kind = 1
  · have e1 : (t.kind == 1) = true := by simp [h1]
    have HS : Hid (succs t = [t.to]) := by rw [Hid, succs, if_pos h1]
    clear h1
    go_enter Try.func49, Try.ntmps49
    go_wp2
    go_ret
    refine ⟨some ⟨w.heap.size + 1, 0, none⟩, 1, by rw [HS.out]; rfl, by rw [HS.out]; exact Nat.le_refl _, by decide, sees_new1 (by simp) _ _ (by rw [HS.out]; rfl), HB.out.alloc HB.out.size _⟩
  · have e1 : (t.kind == 1) = false := by simp [h1]
    by_cases h2 : t.kind = 2
    · have e2 : (t.kind == 2) = true := by simp [h2]
      have HS : Hid (succs t = [t.to, t.el]) := by rw [Hid, succs, if_neg h1, if_pos h2]
      clear h1 h2
      go_enter Try.func49, Try.ntmps49
      go_wp2
      go_ret
      refine ⟨some ⟨w.heap.size + 1, 0, none⟩, 2, by rw [HS.out]; rfl, by rw [HS.out]; exact Nat.le_refl _, by decide, sees_new1 (by simp) _ _ (by rw [HS.out]; rfl), HB.out.alloc HB.out.size _⟩
    · have e2 : (t.kind == 2) = false := by simp [h2]
      have HS : Hid (succs t = []) := by rw [Hid, succs, if_neg h1, if_neg h2]
      clear h1 h2
      go_enter Try.func49, Try.ntmps49
      go_wp2
      go_ret
      refine ⟨none, 0, by rw [HS.out]; rfl, by rw [HS.out]; exact Nat.le_refl _, by decide, ?_, HB.out⟩
      rw [HS.out]
      exact Sees.nil

set_option maxRecDepth 100000 in
set_option maxHeartbeats 1000000 in
theorem rsucc_any (t : Tm) (w : World) :
    Calls Try.prog 21 #[.agg #[.int .i64 t.kind, .int .i64 t.a, .int .i64 t.to, .int .i64 t.el]] w (IntsP w (succs t)) := by
  have HB := Lib.hid ((Below.refl w.heap.size w).alloc (Nat.le_refl _) (.cells #[.int .i64 t.kind, .int .i64 t.a, .int .i64 t.to, .int .i64 t.el] 32))
  by_cases h1 : t.kind = 1
  · have e1 : (t.kind == 1) = true := by simp [h1]
    have HS : Hid (succs t = [t.to]) := by rw [Hid, succs, if_pos h1]
    clear h1
    go_enter Try.func21, Try.ntmps21
    go_wp2
    go_ret
    refine ⟨some ⟨w.heap.size + 1, 0, none⟩, 1, by rw [HS.out]; rfl, by rw [HS.out]; exact Nat.le_refl _, by decide, sees_new1 (by simp) _ _ (by rw [HS.out]; rfl), HB.out.alloc HB.out.size _⟩
  · have e1 : (t.kind == 1) = false := by simp [h1]
    by_cases h2 : t.kind = 2
    · have e2 : (t.kind == 2) = true := by simp [h2]
      have HS : Hid (succs t = [t.to, t.el]) := by rw [Hid, succs, if_neg h1, if_pos h2]
      clear h1 h2
      go_enter Try.func21, Try.ntmps21
      go_wp2
      go_ret
      refine ⟨some ⟨w.heap.size + 1, 0, none⟩, 2, by rw [HS.out]; rfl, by rw [HS.out]; exact Nat.le_refl _, by decide, sees_new1 (by simp) _ _ (by rw [HS.out]; rfl), HB.out.alloc HB.out.size _⟩
    · have e2 : (t.kind == 2) = false := by simp [h2]
      have HS : Hid (succs t = []) := by rw [Hid, succs, if_neg h1, if_neg h2]
      clear h1 h2
      go_enter Try.func21, Try.ntmps21
      go_wp2
      go_ret
      refine ⟨none, 0, by rw [HS.out]; rfl, by rw [HS.out]; exact Nat.le_refl _, by decide, ?_, HB.out⟩
      rw [HS.out]
      exact Sees.nil

def sameI (l r : List Int) : Bool := decide (l = r)

theorem sameI_self (l : List Int) : sameI l l = true := by simp [sameI]

theorem sameI_yes {l r : List Int} (h : l = r) : sameI l r = true := by simp [sameI, h]

theorem sameI_no {l r : List Int} (h : l ≠ r) : sameI l r = false := by simp [sameI, h]

theorem sameI_end {l r : List Int} (hl : l.length = r.length) {k : Nat} (hk : l.length ≤ k) (h : l.take k = r.take k) : l = r := by
  rwa [List.take_of_length_le hk, List.take_of_length_le (by omega)] at h

theorem sameI_step {l r : List Int} {k : Nat} (h : l.take k = r.take k) (hl : k < l.length) (hr : k < r.length) (he : l[k] = r[k]) : l.take (k + 1) = r.take (k + 1) := by
  rw [List.take_succ_eq_append_getElem hl, List.take_succ_eq_append_getElem hr, h, he]

set_option maxRecDepth 100000 in
set_option maxHeartbeats 1000000 in
theorem numbers_any (B : Nat) (A A' : Option Addr) (l r : List Int) (c c' : Nat) (w : World) (hs : Sees w B A (ints l)) (hs' : Sees w B A' (ints r)) (hm : l.length ≤ maxLen) (hm' : r.length ≤ maxLen) :
    Calls Try.prog 13 #[.slice A l.length c, .slice A' r.length c'] w fun e w' => e = .returned (.bool (sameI l r)) ∧ ∃ n, w.drewN n = w' := by
  unfold maxLen at hm hm'
  by_cases hlen : l.length = r.length
  · have e1 : ((l.length : Int) != (r.length : Int)) = false := by simp [hlen]
    have HL := Lib.hid hlen
    clear hlen
    go_enter Try.func13, Try.ntmps13
    go_wp2
    go_loopw [5] (fun i wr => ∃ k n : Nat, k ≤ l.length ∧ i = .int .i64 k ∧ Hid (l.take k = r.take k) ∧ wr = w.drewN n) (fun i _ => l.length - (intOf i).toNat)
    case atStart => exact ⟨0, 0, Nat.zero_le _, rfl, by simp [Hid], rfl⟩
    case round =>
      obtain ⟨k, n, hk, rfl, HT, rfl⟩ := hrel
      by_cases hlt : k < l.length
      · have hltr : k < r.length := by have := HL.out; omega
        obtain ⟨b, o, rfl, _, hcell⟩ := ints_at hs hlt
        obtain ⟨b', o', rfl, _, hcell'⟩ := ints_at hs' hltr
        have HS := fun he => sameI_step HT.out hlt hltr he
        have HN : l[k] ≠ r[k] → l ≠ r := fun h e => by subst e; exact h rfl
        clear hs hs' HT
        generalize l[k] = x at hcell HS HN
        generalize r[k] = y at hcell' HS HN
        by_cases hxy : x = y
        · have HS' := Lib.hid (HS hxy)
          subst hxy
          have e2 : (x != x) = false := by simp
          clear HS HN
          go_wp2
          go_quiet (fail)
          go_wp2
          go_roundw
          case rel => exact ⟨k + 1, _, by omega, by go_num, HS'.out, rfl⟩
          case measure => simp [intOf]; omega
        · have HE := Lib.hid (sameI_no (HN hxy))
          have e2 : (x != y) = true := by simp [hxy]
          clear HS HN hxy
          go_wp2
          go_quiet (fail)
          go_wp2
          go_ret
          exact ⟨by rw [HE.out]; rfl, _, (World.drewN_drewN _ _ _).symm⟩
      · have HE := Lib.hid (sameI_yes (sameI_end HL.out (by omega) HT.out))
        clear HT hs hs'
        go_wp2
        go_ret
        exact ⟨by rw [HE.out]; rfl, _, rfl⟩
  · have HE := Lib.hid (sameI_no (l := l) (r := r) (fun e => hlen (by rw [e])))
    have e1 : ((l.length : Int) != (r.length : Int)) = true := by simp; omega
    clear hlen
    go_enter Try.func13, Try.ntmps13
    go_wp2
    go_ret
    exact ⟨by rw [HE.out]; rfl, 0, rfl⟩

end Go.Proofs.Ytncigbpeempnfaa

/-
  A slice that a call owns, each of whose elements owns a slice of its own: no two share a block. For elements of any sizes.
-/
namespace Go.Proofs.Ytncigbpeempnfaa
open Go.RowKit
set_option linter.unusedVariables false

section
variable {w w' : World} {base n s : Nat} {e : TypeId} {v : Value} {xs : List Value}

theorem ownS_lt (h : w.ownsRow base e s v n xs) (k : Nat) (hk : v.ownBlock = some k) : base ≤ k ∧ k < w.heap.size := by
  rcases h.2 with ⟨rfl, _⟩ | ⟨g, cap, cur, rfl, hg, hh, _⟩
  · simp [Value.ownBlock] at hk
  · have : g = k := by simpa [Value.ownBlock] using hk
    subst this
    exact ⟨hg, (Array.getElem?_eq_some_iff.1 hh).1⟩

theorem ownS_slice (h : w.ownsRow base e s v n xs) : ∃ A c, v = .slice A n c ∧ n ≤ c ∧ c ≤ maxLen := by
  rcases h.2 with ⟨rfl, h0⟩ | ⟨g, cap, cur, rfl, _, _, h1, h2, _⟩
  · subst h0
    exact ⟨none, 0, rfl, Nat.le_refl _, Nat.zero_le _⟩
  · exact ⟨_, cap, rfl, h1, h2⟩

theorem ownS_base {base' : Nat} (h : w.ownsRow base e s v n xs) (hb : base' ≤ base) : w.ownsRow base' e s v n xs :=
  ⟨h.1, by
    rcases h.2 with h | ⟨g, cap, cur, h1, h2, h3⟩
    · exact .inl h
    · exact .inr ⟨g, cap, cur, h1, Nat.le_trans hb h2, h3⟩⟩

theorem ownS_ne {base' m s' : Nat} {e' : TypeId} {u : Value} {ys : List Value} (h : w.ownsRow base e s v n xs) (k : w.ownsRow base' e' s' u m ys) (he : e ≠ e') (g : Nat) (hv : v.ownBlock = some g) (hu : u.ownBlock = some g) : False := by
  rcases h.2 with ⟨rfl, _⟩ | ⟨a, cap, cur, rfl, _, h1, _⟩
  · cases hv
  · rcases k.2 with ⟨rfl, _⟩ | ⟨b, cap', cur', rfl, _, h2, _⟩
    · cases hu
    · simp only [Value.ownBlock, Option.some.injEq] at hv hu
      subst hv
      rw [hu] at h2
      rw [h1] at h2
      simp only [Option.some.injEq, Obj.cells.injEq] at h2
      exact he h2.2.1

theorem Mods.ownS {S : Nat → Prop} (h : Mods S w w') (ho : w.ownsRow base e s v n xs) (hS : ∀ k, v.ownBlock = some k → ¬ S k) : w'.ownsRow base e s v n xs := by
  obtain ⟨h1, h2⟩ := ho
  refine ⟨h1, ?_⟩
  rcases h2 with h2 | ⟨g, cap, cur, rfl, hg, hh, r⟩
  · exact Or.inl h2
  · exact Or.inr ⟨g, cap, cur, rfl, hg, (h.block g (Array.getElem?_eq_some_iff.1 hh).1 (hS g (by simp [Value.ownBlock]))).trans hh, r⟩

theorem sees_own {A : Option Addr} {c : Nat} (h : w.ownsRow base e s (.slice A n c) n xs) : Sees w w.heap.size A xs := fun hn => by
  rcases h.2 with ⟨h0, h1⟩ | ⟨g, cap, cur, hv, _, hg, _⟩
  · exact absurd (List.eq_nil_of_length_eq_zero (by have := h.1; rw [h1] at this; omega)) hn
  · injection hv with hA
    subst hA
    refine ⟨g, 0, rfl, (Array.getElem?_eq_some_iff.1 hg).1, fun i u hu => ?_⟩
    have := h.cells (g := g) rfl i u hu
    simpa [Addr.add_lit] using this

/-- A store into a block of its own. -/
theorem ownS_put {g : Nat} (h : w.ownsRow base e s v n xs) (hg : v.ownBlock = some g) {j : Nat} (hj : j < xs.length) (u : Value) : (w.setCell ⟨g, j, none⟩ u).ownsRow base e s v n (xs.set j u) := by
  refine ⟨by rw [List.length_set]; exact h.1, ?_⟩
  rcases h.2 with ⟨rfl, _⟩ | ⟨g', cap, cur, rfl, hb, hh, h1, h2, h3, h4⟩
  · cases hg
  · simp only [Value.ownBlock, Option.some.injEq] at hg
    subst hg
    refine .inr ⟨g', cap, cur.setIfInBounds j u, rfl, hb, ?_, h1, h2, by simpa using h3, ?_⟩
    · exact Row.put (w := w) (p := g') (T := e) (cs := cur) hh j u
    · rw [Array.toList_setIfInBounds, ← h4, List.take_set]

/-- A slice without elements, in a block of its own. -/
theorem own_empty (W : World) (e : TypeId) (s : Nat) : (W.alloc (.cells #[] e)).ownsRow W.heap.size e s (.slice (some ⟨W.heap.size, 0, none⟩) 0 0) 0 [] :=
  ⟨by simp, .inr ⟨W.heap.size, 0, #[], rfl, Nat.le_refl _, heap_alloc_new W _, Nat.le_refl _, Nat.zero_le _, by simp, by simp⟩⟩

end

section
variable {P : Program} (w : World)

theorem run_append_none' (base : Nat) (t ty e : TypeId) (i : TypeInfo) (size : Nat) (ht : P.underlying t = some (.slice e)) (hi : P.info? e = some i)
    (v : Value) (n : Nat) (xs : List Value) (hown : w.ownsRow base e size v n xs) (c : Nat) : (Builtin.append_ #[t, t] ty #[v, .slice none 0 c]).run P w = .ok v w := by
  rcases hown.2 with ⟨rfl, rfl⟩ | ⟨g, cap, cur, rfl, _, _, hnc, _⟩
  · simp [Builtin.append_, run_underlying ht, sizeOf, typeInfo, hi, Builtin.lenOf, Builtin.firstCells]
  · simp [Builtin.append_, run_underlying ht, sizeOf, typeInfo, hi, Builtin.lenOf, Builtin.firstCells, hnc, storeCells]

/-- Appending a slice that is seen (nil, empty or not). -/
theorem run_append_any (base : Nat) (t ty e : TypeId) (i : TypeInfo) (z : Value) (size bytes : Nat) (ht : P.underlying t = some (.slice e)) (hi : P.info? e = some i) (hz : i.zero = some z)
    (hsize : i.size = size) (hby : i.bytes = bytes) (hzs : z.cells.size = size) (hsz : 0 < size)
    (v : Value) (n : Nat) (xs : List Value) (hown : w.ownsRow base e size v n xs)
    (B : Nat) (A : Option Addr) (m c : Nat) (news : List Value) (hr : Sees w B A news) (hl : news.length = m * size) (h1 : ∀ u ∈ news, u.oneCell' = true)
    (h63 : n + m ≤ maxLen) (hbytes : (n + m) * bytes ≤ 140737488355328) (hbase : base ≤ w.heap.size) :
    ∃ v' w', (Builtin.append_ #[t, t] ty #[v, .slice A m c]).run P w = .ok v' w' ∧ w'.ownsRow base e size v' (n + m) (xs ++ news) ∧ w.grownBy w' v.ownBlock ∧ (v'.ownBlock = v.ownBlock ∨ v'.ownBlock = some w.heap.size) := by
  rcases A with _ | ad
  · have hn : news = [] := by
      rcases news with _ | ⟨y, ys⟩
      · rfl
      · obtain ⟨b, o, h, _⟩ := hr (by simp)
        cases h
    subst hn
    obtain rfl : m = 0 := by
      rcases Nat.eq_zero_or_pos m with h | h
      · exact h
      · have := Nat.mul_pos h hsz
        simp at hl
        omega
    exact ⟨v, w, run_append_none' (P := P) w base t ty e i size ht hi v n xs hown c, by simpa using hown, World.grownBy.refl _ _, .inl rfl⟩
  · obtain ⟨v', w', a1, a2, a3, _, a5⟩ := run_append_own_at (P := P) w base t ty e i z size bytes ht hi hz hsize hby hzs hsz v n xs hown ad m c news hl (fun j u hu => by
      obtain ⟨b, o, hA, _, hc⟩ := hr (by intro e; subst e; simp at hu)
      injection hA with hA
      subst hA
      simpa [Addr.add_lit] using hc j u hu) h1 h63 hbytes hbase
    exact ⟨v', w', a1, a2, a3, a5⟩

/-- The same at a step of a region that draws its order. -/
theorem step_append_any {ops : Array Oper} {o : Oper} {a : Act} {K : Act → World → Prop} {Q : Exit → Act → World → Prop} {E : Prop} (hgd : o.guard = none) (s x : Operand) (t : TypeId)
    (ho : o.op = .call { callee := .builtin .append, args := #[s, x], argTypes := #[t, t] })
    (base : Nat) (e : TypeId) (i : TypeInfo) (z : Value) (size bytes : Nat) (ht : P.underlying t = some (.slice e)) (hi : P.info? e = some i) (hz : i.zero = some z)
    (hsize : i.size = size) (hby : i.bytes = bytes) (hzs : z.cells.size = size) (hsz : 0 < size)
    (v : Value) (n : Nat) (xs : List Value) (hs : a.eval s = v) (hown : w.ownsRow base e size v n xs)
    (B : Nat) (A : Option Addr) (m c : Nat) (news : List Value) (hx : a.eval x = .slice A m c) (hr : Sees w B A news) (hl : news.length = m * size) (h1 : ∀ u ∈ news, u.oneCell' = true)
    (h63 : n + m ≤ maxLen) (hbytes : (n + m) * bytes ≤ 140737488355328) (hbase : base ≤ w.heap.size)
    (h : ∀ v' w', w'.ownsRow base e size v' (n + m) (xs ++ news) → w.grownBy w' v.ownBlock → (v'.ownBlock = v.ownBlock ∨ v'.ownBlock = some w.heap.size) → K (a.put o.dst v') w') :
    if Region.wanted o (yielded ops a.tmps) = true then Oper.wp P o a w K Q else E := by
  have hw : Region.wanted o (yielded ops a.tmps) = true := by simp [Region.wanted, hgd]
  rw [if_pos hw]
  obtain ⟨v', w', hr2, h2, h3, h4⟩ := run_append_any (P := P) w base t o.type e i z size bytes ht hi hz hsize hby hzs hsz v n xs hown B A m c news hr hl h1 h63 hbytes hbase
  unfold Oper.wp execOp
  simp only [ho, resolve, invoke, builtin, Sem.run_bind, Sem.run_pure, Result.andThen_ok, List.map_toArray, List.map_cons, List.map_nil, hs, hx, hr2]
  exact h v' w' h2 h3 h4

end

/-- How the elements lie: the outer and inner element types and sizes; an element's outer cells (given its inner slice) and inner cells. -/
structure Shp (α : Type) where
  eo : TypeId
  ei : TypeId
  so : Nat
  si : Nat
  oc : Value → α → List Value
  ic : α → List Value
  il : α → Nat
  ne : eo ≠ ei
  hoc : ∀ u x, (oc u x).length = so

structure NestV {α : Type} (S : Shp α) (w : World) (base : Nat) (v : Value) (vs : List Value) (xs : List α) : Prop where
  outer : w.ownsRow base S.eo S.so v vs.length ((vs.zip xs).flatMap fun p => S.oc p.1 p.2)
  len : vs.length = xs.length
  inner : ∀ (i : Nat) (u : Value) (x : α), vs[i]? = some u → xs[i]? = some x → w.ownsRow base S.ei S.si u (S.il x) (S.ic x)
  dist : ∀ (i j : Nat) (u u' : Value) (g : Nat), vs[i]? = some u → vs[j]? = some u' → u.ownBlock = some g → u'.ownBlock = some g → i = j

section
variable {α : Type} {S : Shp α} {w w' w0 : World} {base : Nat} {v v' u : Value} {vs : List Value} {xs : List α} {x : α}

theorem NestV.nil (w : World) (base : Nat) : NestV S w base (.slice none 0 0) [] [] :=
  ⟨⟨by simp, .inl ⟨rfl, rfl⟩⟩, rfl, fun i u x h => by simp at h, fun i j u u' g h => by simp at h⟩

theorem NestV.get (h : NestV S w base v vs xs) {i : Nat} {u : Value} (hu : vs[i]? = some u) : ∃ x, xs[i]? = some x ∧ w.ownsRow base S.ei S.si u (S.il x) (S.ic x) := by
  have hi : i < vs.length := (List.getElem?_eq_some_iff.1 hu).1
  have hi' : i < xs.length := by rw [← h.len]; exact hi
  exact ⟨xs[i], List.getElem?_eq_getElem hi', h.inner i u _ hu (List.getElem?_eq_getElem hi')⟩

theorem NestV.got (h : NestV S w base v vs xs) {i : Nat} (hi : i < xs.length) : ∃ u, vs[i]? = some u ∧ w.ownsRow base S.ei S.si u (S.il xs[i]) (S.ic xs[i]) := by
  have hi' : i < vs.length := by rw [h.len]; exact hi
  exact ⟨vs[i], List.getElem?_eq_getElem hi', h.inner i _ _ (List.getElem?_eq_getElem hi') (List.getElem?_eq_getElem hi)⟩

theorem NestV.mods {M : Nat → Prop} (h : NestV S w base v vs xs) (hm : Mods M w w') (hS : ∀ k, base ≤ k → k < w.heap.size → ¬ M k) : NestV S w' base v vs xs :=
  ⟨hm.ownS h.outer fun k hk => by
      have := ownS_lt h.outer k hk
      exact hS k this.1 this.2, h.len,
    fun i u x h1 h2 => hm.ownS (h.inner i u x h1 h2) fun k hk => by
      have := ownS_lt (h.inner i u x h1 h2) k hk
      exact hS k this.1 this.2, h.dist⟩

theorem NestV.below (h : NestV S w base v vs xs) (hb : Below w.heap.size w w') : NestV S w' base v vs xs := h.mods (M := No) (Mods.of_below hb) fun _ _ _ h => h

theorem NestV.rebase (h : NestV S w base v vs xs) {base' : Nat} (hb : base' ≤ base) : NestV S w base' v vs xs :=
  ⟨ownS_base h.outer hb, h.len, fun i u x h1 h2 => ownS_base (h.inner i u x h1 h2) hb, h.dist⟩

theorem zip_snoc {β : Type} (vs : List β) (xs : List α) (u : β) (x : α) (h : vs.length = xs.length) : (vs ++ [u]).zip (xs ++ [x]) = vs.zip xs ++ [(u, x)] := by
  rw [List.zip_append h]
  rfl

/-- One more element, made since, is appended. -/
theorem NestV.snoc {M : Nat → Prop} (h : NestV S w0 base v vs xs) (hm : Mods M w0 w) (hS : ∀ k, M k → k < base) (hb : base ≤ w0.heap.size) (hu : w.ownsRow w0.heap.size S.ei S.si u (S.il x) (S.ic x)) (o : Obj)
    (ho : w'.ownsRow base S.eo S.so v' (vs.length + 1) (((vs.zip xs).flatMap fun p => S.oc p.1 p.2) ++ S.oc u x)) (hg : (w.alloc o).grownBy w' v.ownBlock) : NestV S w' base v' (vs ++ [u]) (xs ++ [x]) := by
  have hS' : ∀ k, base ≤ k → k < w0.heap.size → ¬ M k := fun k h1 _ h3 => by have := hS k h3; omega
  have h1 := h.mods hm hS'
  have hG : Mods (fun k => v.ownBlock = some k) w w' := ((Mods.refl _ _).alloc o).grown hg fun k hk => .inl hk
  have hnew : ∀ (i : Nat) (u' : Value), vs[i]? = some u' → ∀ g, u'.ownBlock = some g → u.ownBlock = some g → False := fun i u' hi g h2 h3 => by
    obtain ⟨x', _, hx'⟩ := h.get hi
    have a := ownS_lt hx' g h2
    have b := ownS_lt hu g h3
    omega
  refine ⟨?_, by simp [h.len], fun i u' y hi hy => ?_, fun i j a b g hi hj ha hb => ?_⟩
  · rw [List.length_append, zip_snoc _ _ _ _ h.len, List.flatMap_append]
    simpa using ho
  · rcases Nat.lt_trichotomy i vs.length with hl | hl | hl
    · rw [List.getElem?_append_left hl] at hi
      rw [List.getElem?_append_left (by rw [← h.len]; exact hl)] at hy
      have hin := h1.inner i u' y hi hy
      exact hG.ownS hin fun k hk hs => ownS_ne h1.outer hin S.ne k hs hk
    · subst hl
      rw [List.getElem?_append_right (Nat.le_refl _), Nat.sub_self] at hi
      rw [h.len, List.getElem?_append_right (Nat.le_refl _), Nat.sub_self] at hy
      injection hi with hi
      injection hy with hy
      subst hi
      subst hy
      exact hG.ownS (ownS_base hu hb) fun k hk hs => ownS_ne h1.outer hu S.ne k hs hk
    · rw [List.getElem?_eq_none (by simp; omega)] at hi
      cases hi
  · have hI : ∀ (i : Nat) (a : Value), (vs ++ [u])[i]? = some a → (vs[i]? = some a) ∨ (i = vs.length ∧ a = u) := fun i a hi => by
      rcases Nat.lt_trichotomy i vs.length with hl | hl | hl
      · rw [List.getElem?_append_left hl] at hi
        exact .inl hi
      · subst hl
        rw [List.getElem?_append_right (Nat.le_refl _), Nat.sub_self] at hi
        injection hi with hi
        exact .inr ⟨rfl, hi.symm⟩
      · rw [List.getElem?_eq_none (by simp; omega)] at hi
        cases hi
    rcases hI i a hi with h2 | ⟨h2, h3⟩
    · rcases hI j b hj with h4 | ⟨h4, h5⟩
      · exact h.dist i j a b g h2 h4 ha hb
      · subst h5
        exact (hnew i a h2 g ha hb).elim
    · subst h3
      rcases hI j b hj with h4 | ⟨h4, h5⟩
      · exact (hnew j b h4 g hb ha).elim
      · omega

theorem flat_set (f : Value → α → List Value) {x x' : α} (e3 : ∀ u, f u x' = f u x) : ∀ (vs : List Value) (xs : List α) (i : Nat), xs[i]? = some x → ((vs.zip (xs.set i x')).flatMap fun p => f p.1 p.2) = (vs.zip xs).flatMap fun p => f p.1 p.2
  | _, [], i, h => by simp at h
  | [], _ :: _, i, h => by simp
  | a :: vs, y :: r, 0, h => by
    simp only [List.getElem?_cons_zero, Option.some.injEq] at h
    subst h
    simp only [List.set_cons_zero, List.zip_cons_cons, List.flatMap_cons, e3]
  | a :: vs, y :: r, i + 1, h => by
    rw [List.getElem?_cons_succ] at h
    simp only [List.set_cons_succ, List.zip_cons_cons, List.flatMap_cons, flat_set f e3 vs r i h]

/-- A store into one element's inner slice. -/
theorem NestV.put (h : NestV S w base v vs xs) {i : Nat} {u : Value} {x x' : α} {g : Nat} (hu : vs[i]? = some u) (hx : xs[i]? = some x) (hg : u.ownBlock = some g) {j : Nat} (hj : j < (S.ic x).length) (z : Value)
    (e1 : S.ic x' = (S.ic x).set j z) (e2 : S.il x' = S.il x) (e3 : ∀ u, S.oc u x' = S.oc u x) : NestV S (w.setCell ⟨g, j, none⟩ z) base v vs (xs.set i x') := by
  have hin := h.inner i u x hu hx
  have hM : Mods (Is g) w (w.setCell ⟨g, j, none⟩ z) := (Mods.refl (Is g) w).put j z
  have hi : i < xs.length := (List.getElem?_eq_some_iff.1 hx).1
  refine ⟨?_, by simp [h.len], fun k a y ha hy => ?_, h.dist⟩
  · have hz : ((vs.zip (xs.set i x')).flatMap fun p => S.oc p.1 p.2) = (vs.zip xs).flatMap fun p => S.oc p.1 p.2 := flat_set S.oc e3 vs xs i hx
    rw [hz]
    exact hM.ownS h.outer fun k hk hs => ownS_ne h.outer hin S.ne g (by rw [← hs]; exact hk) hg
  · by_cases hki : k = i
    · subst hki
      rw [List.getElem?_set_self hi] at hy
      injection hy with hy
      subst hy
      rw [hu] at ha
      injection ha with ha
      subst ha
      rw [e1, e2]
      exact ownS_put hin hg hj z
    · rw [List.getElem?_set_ne (fun e => hki e.symm)] at hy
      exact hM.ownS (h.inner k a y ha hy) fun p hp hs => hki (h.dist k i a u g ha hu (by rw [hp, hs]) hg)

end

/-- Blocks as such elements. -/
def bshp : Shp Blk where
  eo := 34
  ei := 56
  so := 5
  si := 5
  oc := fun u x => [u, .int .i64 x.term.kind, .int .i64 x.term.a, .int .i64 x.term.to, .int .i64 x.term.el]
  ic := fun x => x.code.flatMap In.cells
  il := fun x => x.code.length
  ne := by decide
  hoc := fun _ _ => rfl

theorem insAt_sees {w : World} {B : Nat} {A : Option Addr} {xs : List In} (h : Sees w B A (xs.flatMap In.cells)) : InsAt w B A xs := fun hn => by
  have hg := flat_get In.cells 5 (fun _ => rfl) xs
  have hne : xs.flatMap In.cells ≠ [] := by
    rcases xs with _ | ⟨x, r⟩
    · exact absurd rfl hn
    · simp [In.cells]
  obtain ⟨b, o, e, hb, hc⟩ := h hne
  refine ⟨b, o, e, hb, fun i x hx => ⟨?_, ?_, ?_, ?_, ?_⟩⟩
  · exact hc _ _ (hg i x hx 0 _ rfl)
  · rw [Nat.add_assoc]; exact hc _ _ (hg i x hx 1 _ rfl)
  · rw [Nat.add_assoc]; exact hc _ _ (hg i x hx 2 _ rfl)
  · rw [Nat.add_assoc]; exact hc _ _ (hg i x hx 3 _ rfl)
  · rw [Nat.add_assoc]; exact hc _ _ (hg i x hx 4 _ rfl)

theorem flat_inv {α : Type} (f : α → List Value) (s : Nat) (hs : ∀ x, (f x).length = s) : ∀ (l : List α) (i : Nat) (u : Value), (l.flatMap f)[i]? = some u → ∃ k j x, l[k]? = some x ∧ (f x)[j]? = some u ∧ i = k * s + j
  | [], i, u, h => by simp at h
  | y :: r, i, u, h => by
    rw [List.flatMap_cons] at h
    rcases Nat.lt_or_ge i (f y).length with hi | hi
    · rw [List.getElem?_append_left hi] at h
      exact ⟨0, i, y, rfl, h, by omega⟩
    · rw [List.getElem?_append_right hi] at h
      obtain ⟨k, j, x, h1, h2, h3⟩ := flat_inv f s hs r _ u h
      rw [hs] at h3 hi
      exact ⟨k + 1, j, x, by rw [List.getElem?_cons_succ]; exact h1, h2, by rw [Nat.succ_mul]; omega⟩

theorem sees_insAt {w : World} {B : Nat} {A : Option Addr} {xs : List In} (h : InsAt w B A xs) : Sees w B A (xs.flatMap In.cells) := fun hn => by
  obtain ⟨b, o, e, hb, hc⟩ := h (by rintro rfl; exact hn rfl)
  refine ⟨b, o, e, hb, fun i u hu => ?_⟩
  obtain ⟨k, j, x, h1, h2, rfl⟩ := flat_inv In.cells 5 (fun _ => rfl) xs i u hu
  have hx := hc k x h1
  have hj : j < 5 := (List.getElem?_eq_some_iff.1 h2).1
  rcases (by omega : j = 0 ∨ j = 1 ∨ j = 2 ∨ j = 3 ∨ j = 4) with rfl | rfl | rfl | rfl | rfl
  · rw [← h2]; exact hx.c0
  · rw [← h2, ← Nat.add_assoc]; exact hx.c1
  · rw [← h2, ← Nat.add_assoc]; exact hx.c2
  · rw [← h2, ← Nat.add_assoc]; exact hx.c3
  · rw [← h2, ← Nat.add_assoc]; exact hx.c4

theorem ins_len (xs : List In) : (xs.flatMap In.cells).length = xs.length * 5 := by
  induction xs with
  | nil => rfl
  | cons x r ih => rw [List.flatMap_cons, List.length_append, ih, List.length_cons, show x.cells.length = 5 from rfl]; omega

theorem ins_one (xs : List In) : ∀ u ∈ xs.flatMap In.cells, u.oneCell' = true := by
  intro u hu
  obtain ⟨x, _, hx⟩ := List.mem_flatMap.1 hu
  simp only [In.cells, List.mem_cons, List.not_mem_nil, or_false] at hx
  rcases hx with rfl | rfl | rfl | rfl | rfl <;> rfl

/-- It is a slice, and shows its blocks. -/
theorem nest_blks {w : World} {base : Nat} {v : Value} {vs : List Value} {bs : List Blk} (h : NestV bshp w base v vs bs) : ∃ A c, v = .slice A bs.length c ∧ bs.length ≤ c ∧ c ≤ maxLen ∧ BlksAt w w.heap.size A bs := by
  have ho := h.outer
  obtain ⟨A, c, rfl, h1, h2⟩ := ownS_slice ho
  rw [h.len] at h1
  refine ⟨A, c, by rw [h.len], h1, h2, fun hn => ?_⟩
  have hg := flat_get (fun p : Value × Blk => bshp.oc p.1 p.2) 5 (fun _ => rfl) (vs.zip bs)
  have hz : ∀ i x, bs[i]? = some x → ∃ u, vs[i]? = some u ∧ (vs.zip bs)[i]? = some (u, x) := fun i x hx => by
    have hi : i < bs.length := (List.getElem?_eq_some_iff.1 hx).1
    have hi' : i < vs.length := by rw [h.len]; exact hi
    refine ⟨vs[i], List.getElem?_eq_getElem hi', ?_⟩
    rw [List.getElem?_zip_eq_some]
    exact ⟨List.getElem?_eq_getElem hi', hx⟩
  have hne : (vs.zip bs).flatMap (fun p => bshp.oc p.1 p.2) ≠ [] := by
    rcases bs with _ | ⟨x, r⟩
    · exact absurd rfl hn
    · obtain ⟨u, _, hu⟩ := hz 0 x rfl
      intro e
      have := hg 0 (u, x) hu 0 u rfl
      rw [e] at this
      cases this
  obtain ⟨b, o, e, hb, hc⟩ := sees_own ho hne
  refine ⟨b, o, e, hb, fun i x hx => ?_⟩
  obtain ⟨u, hu, hux⟩ := hz i x hx
  have hin := h.inner i u x hu hx
  obtain ⟨A', c', rfl, h3, h4⟩ := ownS_slice hin
  refine ⟨⟨A', c', hc _ _ (hg i _ hux 0 _ rfl), h3, h4, insAt_sees (sees_own hin)⟩, ?_, ?_, ?_, ?_⟩
  · rw [Nat.add_assoc]; exact hc _ _ (hg i _ hux 1 _ rfl)
  · rw [Nat.add_assoc]; exact hc _ _ (hg i _ hux 2 _ rfl)
  · rw [Nat.add_assoc]; exact hc _ _ (hg i _ hux 3 _ rfl)
  · rw [Nat.add_assoc]; exact hc _ _ (hg i _ hux 4 _ rfl)

end Go.Proofs.Ytncigbpeempnfaa

/-
  Appending a slice that is seen (nil, empty or not) to a slice that the call owns.
-/
namespace Go.Proofs.Ytncigbpeempnfaa
open Go.RowKit

section
variable {P : Program} (w : World)

theorem run_append_none (base : Nat) (t ty e : TypeId) (i : TypeInfo) (size : Nat) (ht : P.underlying t = some (.slice e)) (hi : P.info? e = some i)
    (v : Value) (n : Nat) (xs : List Value) (hown : w.ownsRow base e size v n xs) (c : Nat) : (Builtin.append_ #[t, t] ty #[v, .slice none 0 c]).run P w = .ok v w := by
  rcases hown.2 with ⟨rfl, rfl⟩ | ⟨g, cap, cur, rfl, _, _, hnc, _⟩
  · simp [Builtin.append_, run_underlying ht, sizeOf, typeInfo, hi, Builtin.lenOf, Builtin.firstCells]
  · simp [Builtin.append_, run_underlying ht, sizeOf, typeInfo, hi, Builtin.lenOf, Builtin.firstCells, hnc, storeCells]

theorem wpList_append_sees {ops : Array Oper} {rest : List Oper} {o : Oper} {a : Act} {Q : Exit → Act → World → Prop} (hgd : o.guard = none) (s x : Operand) (t : TypeId)
    (ho : o.op = .call { callee := .builtin .append, args := #[s, x], argTypes := #[t, t] })
    (base : Nat) (e : TypeId) (i : TypeInfo) (z : Value) (bytes : Nat) (ht : P.underlying t = some (.slice e)) (hi : P.info? e = some i) (hz : i.zero = some z)
    (hsize : i.size = 1) (hby : i.bytes = bytes) (hzs : z.cells.size = 1)
    (v : Value) (n : Nat) (xs : List Value) (hs : a.eval s = v) (hown : w.ownsRow base e 1 v n xs)
    (B : Nat) (A : Option Addr) (m c : Nat) (news : List Value) (hx : a.eval x = .slice A m c) (hr : Sees w B A news) (hl : news.length = m) (h1 : ∀ u ∈ news, u.oneCell' = true)
    (h63 : n + m ≤ maxLen) (hbytes : (n + m) * bytes ≤ 140737488355328) (hbase : base ≤ w.heap.size)
    (h : ∀ v' w', w'.ownsRow base e 1 v' (n + m) (xs ++ news) → w.grownBy w' v.ownBlock → wpList P ops Q rest (a.put o.dst v') w') : wpList P ops Q (o :: rest) a w := by
  rcases A with _ | ad
  · have hn : news = [] := by
      rcases news with _ | ⟨y, ys⟩
      · rfl
      · obtain ⟨b, o, h, _⟩ := hr (by simp)
        cases h
    subst hn
    obtain rfl : m = 0 := by simpa using hl.symm
    refine wpList_plain hgd fun K hK => ?_
    have hrun := run_append_none (P := P) w base t o.type e i 1 ht hi v n xs hown c
    unfold Oper.wp execOp
    simp only [ho, resolve, invoke, builtin, Sem.run_bind, Sem.run_pure, Result.andThen_ok, List.map_toArray, List.map_cons, List.map_nil, hs, hx, hrun]
    exact hK _ _ (h v w (by simpa using hown) (World.grownBy.refl _ _))
  · refine wpList_append_own w hgd s x t ho base e i z 1 bytes ht hi hz hsize hby hzs (by decide) v n xs hs hown ad m c news hx (by omega) ?_ h1 h63 hbytes hbase fun v' w' a b _ => h v' w' a b
    intro j u hu
    obtain ⟨b, o, hA, _, hc⟩ := hr (by intro e; subst e; simp at hu)
    injection hA with hA
    subst hA
    simpa [Addr.add_lit] using hc j u hu

end

end Go.Proofs.Ytncigbpeempnfaa

/-
  The program's inRange and unusedZero.
-/
namespace Go.Proofs.Ytncigbpeempnfaa
open Go.RowKit
set_option linter.unusedVariables false

def Flds (w : World) (B : Nat) (A : Option Addr) (fs : List Fld) : Prop := Sees w B A (fs.flatMap Fld.cells)

theorem Flds.at_ {w : World} {B : Nat} {A : Option Addr} {fs : List Fld} (h : Flds w B A fs) {k : Nat} (hk : k < fs.length) :
    ∃ b o, A = some ⟨b, o, none⟩ ∧ b < B ∧ w.cell? ⟨b, o + k * 2, none⟩ = some (.bool fs[k].1) ∧ w.cell? ⟨b, o + k * 2 + 1, none⟩ = some (.int .i64 fs[k].2) := by
  have hg := flat_get Fld.cells 2 (fun _ => rfl) fs k fs[k] (List.getElem?_eq_getElem hk)
  have h0 := hg 0 _ rfl
  have h1 := hg 1 _ rfl
  obtain ⟨b, o, e, hb, hc⟩ := h (by intro e; rw [e] at h0; cases h0)
  exact ⟨b, o, e, hb, hc _ _ h0, by rw [Nat.add_assoc]; exact hc _ _ h1⟩

theorem Flds.below {w w' : World} {B : Nat} {A : Option Addr} {fs : List Fld} (h : Flds w B A fs) (hb : Below B w w') : Flds w' B A fs := Sees.below h hb

theorem Flds.more {w : World} {B B' : Nat} {A : Option Addr} {fs : List Fld} (h : Flds w B A fs) (hB : B ≤ B') : Flds w B' A fs := Sees.more h hB

end Go.Proofs.Ytncigbpeempnfaa

/-
  The program's functions on opcodes: isOpcode, Of, Operands, Source, Machine, Name; and the reference's uses.
-/
namespace Go.Proofs.Ytncigbpeempnfaa
open Go.RowKit

theorem ways (op : Int) : op < 1 ∨ 18 < op ∨ ∃ k : Nat, 1 ≤ k ∧ k ≤ 18 ∧ op = k := by
  rcases (by omega : op < 1 ∨ 18 < op ∨ (1 ≤ op ∧ op ≤ 18)) with h | h | h
  · exact .inl h
  · exact .inr (.inl h)
  · exact .inr (.inr ⟨op.toNat, by omega, by omega, by omega⟩)

set_option maxRecDepth 100000 in
theorem rusesD_any (op : Int) (b : Bool) (w : World) (hb : uD op = b) :
    Calls Try.prog 34 #[.int .i64 op] w fun e w' => e = .returned (.bool b) ∧ w = w' := by
  subst hb
  by_cases h : 1 ≤ op
  · by_cases h2 : op ≤ 16
    · rw [uD, decide_eq_true ⟨h, h2⟩]
      go_enter Try.func34, Try.ntmps34
      go_wp2
      go_ret
      exact ⟨rfl, rfl⟩
    · rw [uD, decide_eq_false (fun e => h2 e.2)]
      go_enter Try.func34, Try.ntmps34
      go_wp2
      go_ret
      exact ⟨rfl, rfl⟩
  · rw [uD, decide_eq_false (fun e => h e.1)]
    go_enter Try.func34, Try.ntmps34
    go_wp2
    go_ret
    exact ⟨rfl, rfl⟩

set_option maxRecDepth 100000 in
theorem rusesA_any (op : Int) (b : Bool) (w : World) (hb : uA op = b) :
    Calls Try.prog 32 #[.int .i64 op] w fun e w' => e = .returned (.bool b) ∧ w = w' := by
  subst hb
  by_cases h : 2 ≤ op
  · by_cases h2 : op ≤ 17
    · rw [uA, decide_eq_true ⟨h, h2⟩]
      go_enter Try.func32, Try.ntmps32
      go_wp2
      go_ret
      exact ⟨rfl, rfl⟩
    · rw [uA, decide_eq_false (fun e => h2 e.2)]
      go_enter Try.func32, Try.ntmps32
      go_wp2
      go_ret
      exact ⟨rfl, rfl⟩
  · rw [uA, decide_eq_false (fun e => h e.1)]
    go_enter Try.func32, Try.ntmps32
    go_wp2
    go_ret
    exact ⟨rfl, rfl⟩

set_option maxRecDepth 100000 in
theorem rusesB_any (op : Int) (b : Bool) (w : World) (hb : uB op = b) :
    Calls Try.prog 33 #[.int .i64 op] w fun e w' => e = .returned (.bool b) ∧ w = w' := by
  subst hb
  by_cases h : 5 ≤ op
  · by_cases h2 : op ≤ 16
    · rw [uB, decide_eq_true ⟨h, h2⟩]
      go_enter Try.func33, Try.ntmps33
      go_wp2
      go_ret
      exact ⟨rfl, rfl⟩
    · rw [uB, decide_eq_false (fun e => h2 e.2)]
      go_enter Try.func33, Try.ntmps33
      go_wp2
      go_ret
      exact ⟨rfl, rfl⟩
  · rw [uB, decide_eq_false (fun e => h e.1)]
    go_enter Try.func33, Try.ntmps33
    go_wp2
    go_ret
    exact ⟨rfl, rfl⟩

end Go.Proofs.Ytncigbpeempnfaa

/-
  The program's Of and Operands.
-/
namespace Go.Proofs.Ytncigbpeempnfaa
open Go.RowKit

theorem ways18 (op : Int) : uO op = false ∨ op = 1 ∨ op = 2 ∨ op = 3 ∨ op = 4 ∨ op = 5 ∨ op = 6 ∨ op = 7 ∨ op = 8 ∨ op = 9 ∨ op = 10 ∨ op = 11 ∨ op = 12 ∨ op = 13 ∨ op = 14 ∨ op = 15 ∨ op = 16 ∨ op = 17 ∨ op = 18 := by
  by_cases h : 1 ≤ op ∧ op ≤ 18
  · right; omega
  · left; exact decide_eq_false h

theorem out_of {op : Int} (h : uO op = false) : ¬ (1 ≤ op ∧ op ≤ 18) := of_decide_eq_false h

theorem out_D {op : Int} (h : uO op = false) : uD op = false := decide_eq_false (by have := out_of h; omega)

theorem out_A {op : Int} (h : uO op = false) : uA op = false := decide_eq_false (by have := out_of h; omega)

theorem out_B {op : Int} (h : uO op = false) : uB op = false := decide_eq_false (by have := out_of h; omega)

theorem out_I {op : Int} (h : uO op = false) : uI op = false := decide_eq_false (by have := out_of h; omega)

theorem out_ne {op : Int} (h : uO op = false) (k : Int) (h1 : 1 ≤ k ∧ k ≤ 18) : (op == k) = false := beq_eq_false_iff_ne.2 fun e => out_of h (e ▸ h1)

/-- What Of answers. -/
def shp (op : Int) : Value := .agg #[.bool (uD op), .bool (uA op), .bool (uB op), .bool (uI op)]

set_option maxRecDepth 100000 in
set_option maxHeartbeats 1000000 in
theorem of_any (op : Int) (w : World) :
    Calls Try.prog 44 #[.int .i64 op] w fun e w' => e = .returned (.tuple #[shp op, .bool (uO op)]) ∧ Below w.heap.size w w' := by
  rcases ways18 op with h | h | h | h | h | h | h | h | h | h | h | h | h | h | h | h | h | h | h
  · rw [shp, out_D h, out_A h, out_B h, out_I h, h]
    have h1 := out_ne h 1 (by omega); have h2 := out_ne h 2 (by omega); have h3 := out_ne h 3 (by omega); have h4 := out_ne h 4 (by omega); have h5 := out_ne h 5 (by omega); have h6 := out_ne h 6 (by omega)
    have h7 := out_ne h 7 (by omega); have h8 := out_ne h 8 (by omega); have h9 := out_ne h 9 (by omega); have h10 := out_ne h 10 (by omega); have h11 := out_ne h 11 (by omega); have h12 := out_ne h 12 (by omega)
    have h13 := out_ne h 13 (by omega); have h14 := out_ne h 14 (by omega); have h15 := out_ne h 15 (by omega); have h16 := out_ne h 16 (by omega); have h17 := out_ne h 17 (by omega); have h18 := out_ne h 18 (by omega)
    clear h
    go_enter Try.func44, Try.ntmps44
    go_wp2
    (try simp only [Exit.inBlock, Exit.then])
    refine bodyPost_ret (v := .tuple #[.agg #[.bool false, .bool false, .bool false, .bool false], .bool false]) ?_ rfl ⟨rfl, ?_⟩
    · rw [results_cell_tmp rfl]
      go_simp
    · exact (Below.refl _ _).alloc (Nat.le_refl _) _
  · subst h
    rw [show shp 1 = .agg #[.bool true, .bool false, .bool false, .bool true] from rfl, show uO 1 = true from rfl]
    go_enter Try.func44, Try.ntmps44
    go_wp2
    (try simp only [Exit.inBlock, Exit.then])
    refine bodyPost_ret (v := .tuple #[.agg #[.bool true, .bool false, .bool false, .bool true], .bool true]) ?_ rfl ⟨rfl, ?_⟩
    · rw [results_cell_tmp rfl]
      go_simp
    · exact (Below.refl _ _).alloc (Nat.le_refl _) _
  · subst h
    rw [show shp 2 = .agg #[.bool true, .bool true, .bool false, .bool false] from rfl, show uO 2 = true from rfl]
    go_enter Try.func44, Try.ntmps44
    go_wp2
    (try simp only [Exit.inBlock, Exit.then])
    refine bodyPost_ret (v := .tuple #[.agg #[.bool true, .bool true, .bool false, .bool false], .bool true]) ?_ rfl ⟨rfl, ?_⟩
    · rw [results_cell_tmp rfl]
      go_simp
    · exact (Below.refl _ _).alloc (Nat.le_refl _) _
  · subst h
    rw [show shp 3 = .agg #[.bool true, .bool true, .bool false, .bool false] from rfl, show uO 3 = true from rfl]
    go_enter Try.func44, Try.ntmps44
    go_wp2
    (try simp only [Exit.inBlock, Exit.then])
    refine bodyPost_ret (v := .tuple #[.agg #[.bool true, .bool true, .bool false, .bool false], .bool true]) ?_ rfl ⟨rfl, ?_⟩
    · rw [results_cell_tmp rfl]
      go_simp
    · exact (Below.refl _ _).alloc (Nat.le_refl _) _
  · subst h
    rw [show shp 4 = .agg #[.bool true, .bool true, .bool false, .bool false] from rfl, show uO 4 = true from rfl]
    go_enter Try.func44, Try.ntmps44
    go_wp2
    (try simp only [Exit.inBlock, Exit.then])
    refine bodyPost_ret (v := .tuple #[.agg #[.bool true, .bool true, .bool false, .bool false], .bool true]) ?_ rfl ⟨rfl, ?_⟩
    · rw [results_cell_tmp rfl]
      go_simp
    · exact (Below.refl _ _).alloc (Nat.le_refl _) _
  · subst h
    rw [show shp 5 = .agg #[.bool true, .bool true, .bool true, .bool false] from rfl, show uO 5 = true from rfl]
    go_enter Try.func44, Try.ntmps44
    go_wp2
    (try simp only [Exit.inBlock, Exit.then])
    refine bodyPost_ret (v := .tuple #[.agg #[.bool true, .bool true, .bool true, .bool false], .bool true]) ?_ rfl ⟨rfl, ?_⟩
    · rw [results_cell_tmp rfl]
      go_simp
    · exact (Below.refl _ _).alloc (Nat.le_refl _) _
  · subst h
    rw [show shp 6 = .agg #[.bool true, .bool true, .bool true, .bool false] from rfl, show uO 6 = true from rfl]
    go_enter Try.func44, Try.ntmps44
    go_wp2
    (try simp only [Exit.inBlock, Exit.then])
    refine bodyPost_ret (v := .tuple #[.agg #[.bool true, .bool true, .bool true, .bool false], .bool true]) ?_ rfl ⟨rfl, ?_⟩
    · rw [results_cell_tmp rfl]
      go_simp
    · exact (Below.refl _ _).alloc (Nat.le_refl _) _
  · subst h
    rw [show shp 7 = .agg #[.bool true, .bool true, .bool true, .bool false] from rfl, show uO 7 = true from rfl]
    go_enter Try.func44, Try.ntmps44
    go_wp2
    (try simp only [Exit.inBlock, Exit.then])
    refine bodyPost_ret (v := .tuple #[.agg #[.bool true, .bool true, .bool true, .bool false], .bool true]) ?_ rfl ⟨rfl, ?_⟩
    · rw [results_cell_tmp rfl]
      go_simp
    · exact (Below.refl _ _).alloc (Nat.le_refl _) _
  · subst h
    rw [show shp 8 = .agg #[.bool true, .bool true, .bool true, .bool false] from rfl, show uO 8 = true from rfl]
    go_enter Try.func44, Try.ntmps44
    go_wp2
    (try simp only [Exit.inBlock, Exit.then])
    refine bodyPost_ret (v := .tuple #[.agg #[.bool true, .bool true, .bool true, .bool false], .bool true]) ?_ rfl ⟨rfl, ?_⟩
    · rw [results_cell_tmp rfl]
      go_simp
    · exact (Below.refl _ _).alloc (Nat.le_refl _) _
  · subst h
    rw [show shp 9 = .agg #[.bool true, .bool true, .bool true, .bool false] from rfl, show uO 9 = true from rfl]
    go_enter Try.func44, Try.ntmps44
    go_wp2
    (try simp only [Exit.inBlock, Exit.then])
    refine bodyPost_ret (v := .tuple #[.agg #[.bool true, .bool true, .bool true, .bool false], .bool true]) ?_ rfl ⟨rfl, ?_⟩
    · rw [results_cell_tmp rfl]
      go_simp
    · exact (Below.refl _ _).alloc (Nat.le_refl _) _
  · subst h
    rw [show shp 10 = .agg #[.bool true, .bool true, .bool true, .bool false] from rfl, show uO 10 = true from rfl]
    go_enter Try.func44, Try.ntmps44
    go_wp2
    (try simp only [Exit.inBlock, Exit.then])
    refine bodyPost_ret (v := .tuple #[.agg #[.bool true, .bool true, .bool true, .bool false], .bool true]) ?_ rfl ⟨rfl, ?_⟩
    · rw [results_cell_tmp rfl]
      go_simp
    · exact (Below.refl _ _).alloc (Nat.le_refl _) _
  · subst h
    rw [show shp 11 = .agg #[.bool true, .bool true, .bool true, .bool false] from rfl, show uO 11 = true from rfl]
    go_enter Try.func44, Try.ntmps44
    go_wp2
    (try simp only [Exit.inBlock, Exit.then])
    refine bodyPost_ret (v := .tuple #[.agg #[.bool true, .bool true, .bool true, .bool false], .bool true]) ?_ rfl ⟨rfl, ?_⟩
    · rw [results_cell_tmp rfl]
      go_simp
    · exact (Below.refl _ _).alloc (Nat.le_refl _) _
  · subst h
    rw [show shp 12 = .agg #[.bool true, .bool true, .bool true, .bool false] from rfl, show uO 12 = true from rfl]
    go_enter Try.func44, Try.ntmps44
    go_wp2
    (try simp only [Exit.inBlock, Exit.then])
    refine bodyPost_ret (v := .tuple #[.agg #[.bool true, .bool true, .bool true, .bool false], .bool true]) ?_ rfl ⟨rfl, ?_⟩
    · rw [results_cell_tmp rfl]
      go_simp
    · exact (Below.refl _ _).alloc (Nat.le_refl _) _
  · subst h
    rw [show shp 13 = .agg #[.bool true, .bool true, .bool true, .bool false] from rfl, show uO 13 = true from rfl]
    go_enter Try.func44, Try.ntmps44
    go_wp2
    (try simp only [Exit.inBlock, Exit.then])
    refine bodyPost_ret (v := .tuple #[.agg #[.bool true, .bool true, .bool true, .bool false], .bool true]) ?_ rfl ⟨rfl, ?_⟩
    · rw [results_cell_tmp rfl]
      go_simp
    · exact (Below.refl _ _).alloc (Nat.le_refl _) _
  · subst h
    rw [show shp 14 = .agg #[.bool true, .bool true, .bool true, .bool false] from rfl, show uO 14 = true from rfl]
    go_enter Try.func44, Try.ntmps44
    go_wp2
    (try simp only [Exit.inBlock, Exit.then])
    refine bodyPost_ret (v := .tuple #[.agg #[.bool true, .bool true, .bool true, .bool false], .bool true]) ?_ rfl ⟨rfl, ?_⟩
    · rw [results_cell_tmp rfl]
      go_simp
    · exact (Below.refl _ _).alloc (Nat.le_refl _) _
  · subst h
    rw [show shp 15 = .agg #[.bool true, .bool true, .bool true, .bool false] from rfl, show uO 15 = true from rfl]
    go_enter Try.func44, Try.ntmps44
    go_wp2
    (try simp only [Exit.inBlock, Exit.then])
    refine bodyPost_ret (v := .tuple #[.agg #[.bool true, .bool true, .bool true, .bool false], .bool true]) ?_ rfl ⟨rfl, ?_⟩
    · rw [results_cell_tmp rfl]
      go_simp
    · exact (Below.refl _ _).alloc (Nat.le_refl _) _
  · subst h
    rw [show shp 16 = .agg #[.bool true, .bool true, .bool true, .bool false] from rfl, show uO 16 = true from rfl]
    go_enter Try.func44, Try.ntmps44
    go_wp2
    (try simp only [Exit.inBlock, Exit.then])
    refine bodyPost_ret (v := .tuple #[.agg #[.bool true, .bool true, .bool true, .bool false], .bool true]) ?_ rfl ⟨rfl, ?_⟩
    · rw [results_cell_tmp rfl]
      go_simp
    · exact (Below.refl _ _).alloc (Nat.le_refl _) _
  · subst h
    rw [show shp 17 = .agg #[.bool false, .bool true, .bool false, .bool false] from rfl, show uO 17 = true from rfl]
    go_enter Try.func44, Try.ntmps44
    go_wp2
    (try simp only [Exit.inBlock, Exit.then])
    refine bodyPost_ret (v := .tuple #[.agg #[.bool false, .bool true, .bool false, .bool false], .bool true]) ?_ rfl ⟨rfl, ?_⟩
    · rw [results_cell_tmp rfl]
      go_simp
    · exact (Below.refl _ _).alloc (Nat.le_refl _) _
  · subst h
    rw [show shp 18 = .agg #[.bool false, .bool false, .bool false, .bool false] from rfl, show uO 18 = true from rfl]
    go_enter Try.func44, Try.ntmps44
    go_wp2
    (try simp only [Exit.inBlock, Exit.then])
    refine bodyPost_ret (v := .tuple #[.agg #[.bool false, .bool false, .bool false, .bool false], .bool true]) ?_ rfl ⟨rfl, ?_⟩
    · rw [results_cell_tmp rfl]
      go_simp
    · exact (Below.refl _ _).alloc (Nat.le_refl _) _

theorem shp_eq (op : Int) {d a b i : Bool} (h1 : uD op = d) (h2 : uA op = a) (h3 : uB op = b) (h4 : uI op = i) : shp op = .agg #[.bool d, .bool a, .bool b, .bool i] := by subst h1; subst h2; subst h3; subst h4; rfl

theorem of_at (op : Int) (d a b i o : Bool) (w : World) (h1 : uD op = d) (h2 : uA op = a) (h3 : uB op = b) (h4 : uI op = i) (h5 : uO op = o) :
    Calls Try.prog 44 #[.int .i64 op] w fun e w' => e = .returned (.tuple #[.agg #[.bool d, .bool a, .bool b, .bool i], .bool o]) ∧ Below w.heap.size w w' := by
  subst h5
  rw [← shp_eq op h1 h2 h3 h4]
  exact of_any op w

end Go.Proofs.Ytncigbpeempnfaa

/-
  The program's Instr.
-/
namespace Go.Proofs.Ytncigbpeempnfaa
open Go.RowKit
set_option linter.unusedVariables false

theorem sees_new' {W : World} {p : Nat} (hp : W.heap.size = p) (cs : Array Value) (t : TypeId) {xs : List Value} (hx : xs = cs.toList) : Sees (W.alloc (.cells cs t)) (p + 1) (some ⟨p, 0, none⟩) xs := by
  subst hp
  subst hx
  exact sees_new W cs t

theorem Row.new' {W : World} {p : Nat} (hp : W.heap.size = p) (T : TypeId) (cs : Array Value) : Row (W.alloc (.cells cs T)) p T cs := by
  subst hp
  exact Row.new W T cs

/-- Fields laid one behind the other, and what a later world still shows of them. -/
theorem rows5 {W1 W3 : World} {s0 f0 f1 f2 f3 g : Array Value} {ts t : TypeId} (hb : Below ((((((W1.alloc (.cells s0 ts)).alloc (.cells f0 t)).alloc (.cells f1 t)).alloc (.cells f2 t)).alloc (.cells f3 t)).alloc (.cells g t)).heap.size ((((((W1.alloc (.cells s0 ts)).alloc (.cells f0 t)).alloc (.cells f1 t)).alloc (.cells f2 t)).alloc (.cells f3 t)).alloc (.cells g t)) W3) :
    (∀ i, W3.cell? ⟨W1.heap.size + 1, i, none⟩ = f0[i]?) ∧ (∀ i, W3.cell? ⟨W1.heap.size + 1 + 1, i, none⟩ = f1[i]?) ∧ (∀ i, W3.cell? ⟨W1.heap.size + 1 + 1 + 1, i, none⟩ = f2[i]?) ∧ (∀ i, W3.cell? ⟨W1.heap.size + 1 + 1 + 1 + 1, i, none⟩ = f3[i]?) ∧ Below W1.heap.size W1 W3 := by
  have r0 := (((((Row.new' (W := W1.alloc (.cells s0 ts)) (p := W1.heap.size + 1) (by simp) t f0).alloc (.cells f1 t)).alloc (.cells f2 t)).alloc (.cells f3 t)).alloc (.cells g t)).below hb (by simp)
  have r1 := ((((Row.new' (W := (W1.alloc (.cells s0 ts)).alloc (.cells f0 t)) (p := W1.heap.size + 1 + 1) (by simp) t f1).alloc (.cells f2 t)).alloc (.cells f3 t)).alloc (.cells g t)).below hb (by simp)
  have r2 := (((Row.new' (W := ((W1.alloc (.cells s0 ts)).alloc (.cells f0 t)).alloc (.cells f1 t)) (p := W1.heap.size + 1 + 1 + 1) (by simp) t f2).alloc (.cells f3 t)).alloc (.cells g t)).below hb (by simp)
  have r3 := ((Row.new' (W := (((W1.alloc (.cells s0 ts)).alloc (.cells f0 t)).alloc (.cells f1 t)).alloc (.cells f2 t)) (p := W1.heap.size + 1 + 1 + 1 + 1) (by simp) t f3).alloc (.cells g t)).below hb (by simp)
  refine ⟨r0.cell, r1.cell, r2.cell, r3.cell, ?_⟩
  have h0 := ((((((Below.refl W1.heap.size W1).alloc (Nat.le_refl _) (.cells s0 ts)).alloc (by simp) (.cells f0 t)).alloc (by simp; omega) (.cells f1 t)).alloc (by simp; omega) (.cells f2 t)).alloc (by simp; omega) (.cells f3 t)).alloc (by simp; omega) (.cells g t)
  exact h0.trans (hb.mono h0.size)

end Go.Proofs.Ytncigbpeempnfaa

/-
  Taking an operation of a region first.
-/
namespace Go.Proofs.Ytncigbpeempnfaa
open Go.RowKit

/-- Taking an operation first, its slot written out. -/
theorem take_at {P : Program} {md : Region.Mode} {ops : Array Oper} {Q : Exit → Act → World → Prop} {S : World → Prop} (i d : Nat) {oi : Oper} (v : Value) {fuel : Nat} {listed : Array Bool} {a : Act} {w : World} (hi : ops[i]? = some oi) (hd : oi.dst = some d)
    (hs : Region.noSelect ops = true) (hf : Region.free md ops listed i = true) (hr : (Region.ready md ops listed).contains i = true)
    (hQ : ∀ c a w, Q (.panic c) (a.put oi.dst v) w → Q (.panic c) a w) (hy : YieldsIf P ops S oi v a) (hS : S w)
    (h : wpAnyH P md ops Q S fuel (listed.setIfInBounds i true) (a.put (some d) v) w) : wpAnyH P md ops Q S (fuel + 1) listed a w :=
  wpAnyH_take hi hs hf hr hQ hy hS (by rw [hd]; exact h)

end Go.Proofs.Ytncigbpeempnfaa

/-
  Appending a slice that is seen to a slice that the call owns: with the block of the result.
-/
namespace Go.Proofs.Ytncigbpeempnfaa
open Go.RowKit

theorem wpList_append_any {P : Program} (w : World) {ops : Array Oper} {rest : List Oper} {o : Oper} {a : Act} {Q : Exit → Act → World → Prop} (hgd : o.guard = none) (s x : Operand) (t : TypeId)
    (ho : o.op = .call { callee := .builtin .append, args := #[s, x], argTypes := #[t, t] })
    (base : Nat) (e : TypeId) (i : TypeInfo) (z : Value) (size bytes : Nat) (ht : P.underlying t = some (.slice e)) (hi : P.info? e = some i) (hz : i.zero = some z)
    (hsize : i.size = size) (hby : i.bytes = bytes) (hzs : z.cells.size = size) (hsz : 0 < size)
    (v : Value) (n : Nat) (xs : List Value) (hs : a.eval s = v) (hown : w.ownsRow base e size v n xs)
    (B : Nat) (A : Option Addr) (m c : Nat) (news : List Value) (hx : a.eval x = .slice A m c) (hr : Sees w B A news) (hl : news.length = m * size) (h1 : ∀ u ∈ news, u.oneCell' = true)
    (h63 : n + m ≤ maxLen) (hbytes : (n + m) * bytes ≤ 140737488355328) (hbase : base ≤ w.heap.size)
    (h : ∀ v' w', w'.ownsRow base e size v' (n + m) (xs ++ news) → w.grownBy w' v.ownBlock → (v'.ownBlock = v.ownBlock ∨ v'.ownBlock = some w.heap.size) → wpList P ops Q rest (a.put o.dst v') w') : wpList P ops Q (o :: rest) a w := by
  obtain ⟨v', w', hr2, h2, h3, h4⟩ := run_append_any (P := P) w base t o.type e i z size bytes ht hi hz hsize hby hzs hsz v n xs hown B A m c news hr hl h1 h63 hbytes hbase
  refine wpList_plain hgd fun K hK => ?_
  unfold Oper.wp execOp
  simp only [ho, resolve, invoke, builtin, Sem.run_bind, Sem.run_pure, Result.andThen_ok, List.map_toArray, List.map_cons, List.map_nil, hs, hx, hr2]
  exact hK _ _ (h v' w' h2 h3 h4)

end Go.Proofs.Ytncigbpeempnfaa

/-
  Runs of allocated functions as data: a step, many steps, and what stays true of them.
-/
namespace Go.Proofs.Ytncigbpeempnfaa
open Go.RowKit
set_option linter.unusedVariables false

structure Xn where
  st : Int
  blk : Nat
  pos : Nat
  val : Int
  regs : List Int
  slots : List Int
  trace : List Int
  steps : Nat

def mblkAt (bs : List MBlk) (k : Nat) : MBlk := bs.getD k ⟨[], ⟨0, 0, 0, 0⟩⟩

/-- The value of a location; a run with another one. -/
def rdX (r : Xn) (l : Int) : Int := if l % 2 = 1 then rg r.slots (l / 2) else rg r.regs (l / 2)

def putX (r : Xn) (l v : Int) : Xn := if l % 2 = 1 then { r with slots := r.slots.set (l / 2).toNat v } else { r with regs := r.regs.set (l / 2).toNat v }

/-- Performing an instruction; leaving a block; a step. -/
def xperf (i : Mi) (r : Xn) : Xn :=
  if i.op = 18 then { putX r i.dst (rdX r i.src) with pos := r.pos + 1, steps := r.steps + 1 }
  else if i.op = 17 then { r with trace := r.trace ++ [rg r.regs i.a], pos := r.pos + 1, steps := r.steps + 1 }
  else if evo i.op (rg r.regs i.b) = true then { r with regs := r.regs.set i.d.toNat (ev i.op (rg r.regs i.a) (rg r.regs i.b) i.imm), pos := r.pos + 1, steps := r.steps + 1 }
  else { r with st := 2 }

def xleav (t : Tm) (r : Xn) : Xn :=
  if t.kind = 3 then { r with st := 1, val := rg r.regs t.a, steps := r.steps + 1 }
  else { r with blk := if t.kind = 2 ∧ rg r.regs t.a = 0 then t.el.toNat else t.to.toNat, pos := 0, steps := r.steps + 1 }

def stepX (bs : List MBlk) (r : Xn) : Xn :=
  if r.st = 0 then if h : r.pos < (mblkAt bs r.blk).code.length then xperf ((mblkAt bs r.blk).code[r.pos]) r else xleav (mblkAt bs r.blk).term r else r

def runX (bs : List MBlk) (r : Xn) : Nat → Xn
  | 0 => r
  | n + 1 => stepX bs (runX bs r n)

def xn0 (regs slots : Nat) (args : List Int) : Xn := ⟨0, 0, 0, 0, List.replicate regs 0, args ++ List.replicate (slots - args.length) 0, [], 0⟩

/-- What a valid function's locations, instructions and terminators are. -/
def LocOk (regs slots : Nat) (l : Int) : Prop := 0 ≤ l ∧ ((l % 2 = 1 ∧ l / 2 < slots) ∨ (l % 2 = 0 ∧ l / 2 < regs))

def MiOk (regs slots : Nat) (x : Mi) : Prop :=
  (x.op = 18 ∧ LocOk regs slots x.dst ∧ LocOk regs slots x.src) ∨ (x.op = 17 ∧ 0 ≤ x.a ∧ x.a < regs) ∨
    (¬ x.op = 18 ∧ ¬ x.op = 17 ∧ InI x.imm ∧ 0 ≤ x.a ∧ x.a < regs ∧ 0 ≤ x.d ∧ x.d < regs ∧ 0 ≤ x.b ∧ x.b < regs)

structure OkM (regs slots : Nat) (bs : List MBlk) : Prop where
  ne : 0 < bs.length
  ins : ∀ b ∈ bs, ∀ i ∈ b.code, MiOk regs slots i
  tm : ∀ b ∈ bs, TmOk regs bs.length b.term

structure GoodX (regs slots : Nat) (bs : List MBlk) (r : Xn) : Prop where
  blk : r.blk < bs.length
  pos : r.pos ≤ (mblkAt bs r.blk).code.length
  lenr : r.regs.length = regs
  lens : r.slots.length = slots
  wfr : ∀ v ∈ r.regs, InI v
  wfs : ∀ v ∈ r.slots, InI v
  tr : r.trace.length ≤ r.steps

theorem mblkAt_lt {bs : List MBlk} {k : Nat} (h : k < bs.length) : mblkAt bs k = bs[k] := by simp [mblkAt, List.getD, h]

theorem mblkAt_mem {bs : List MBlk} {k : Nat} (h : k < bs.length) : mblkAt bs k ∈ bs := by rw [mblkAt_lt h]; exact List.getElem_mem h

theorem locS_ok {l : Int} {regs slots : Nat} (h : locS l regs slots = true) : LocOk regs slots l := by
  unfold locS at h
  by_cases h0 : l < 0
  · rw [if_pos h0] at h; cases h
  · rw [if_neg h0] at h
    by_cases h1 : l % 2 = 1
    · rw [if_pos h1] at h
      exact ⟨by omega, .inl ⟨h1, of_decide_eq_true h⟩⟩
    · rw [if_neg h1] at h
      exact ⟨by omega, .inr ⟨by omega, of_decide_eq_true h⟩⟩

theorem locOk_S {l : Int} {regs slots : Nat} (h : LocOk regs slots l) : locS l regs slots = true := by
  obtain ⟨h0, ⟨h1, h2⟩ | ⟨h1, h2⟩⟩ := h
  · unfold locS
    rw [if_neg (by omega), if_pos h1]
    exact decide_eq_true h2
  · unfold locS
    rw [if_neg (by omega), if_neg (by omega)]
    exact decide_eq_true h2

theorem eM_ok {x : Mi} {regs slots : Nat} (h : eM x regs slots = 0) (hw : x.Wf) : MiOk regs slots x := by
  unfold eM at h
  split at h
  · split at h
    · rename_i hm
      unfold eMv at h
      split at h
      · cases h
      · rename_i hb
        unfold Mi.bad at hb
        simp only [Bool.or_eq_true, Bool.not_eq_true', not_or, Bool.not_eq_false] at hb
        exact .inl ⟨by simpa [Mi.mv] using hm, locS_ok hb.1.1, locS_ok hb.1.2⟩
    · rename_i hm
      have h18 : ¬ x.op = 18 := by simpa [Mi.mv] using hm
      have he : eI x.ins regs = 0 := by
        unfold eOt at h
        split at h
        · cases h
        · exact h
      have hi : x.ins.Wf := ⟨hw.1, hw.2.1, hw.2.2.1, hw.2.2.2.1, hw.2.2.2.2.1⟩
      obtain ⟨g1, g2, g3, g4⟩ := eI_ok he hi
      rcases g4 with g4 | ⟨g4, g5⟩
      · exact .inr (.inl ⟨g4, g2, g3⟩)
      · exact .inr (.inr ⟨h18, g4, g1, g2, g3, g5⟩)
  · cases h

theorem eMBs_ok {regs slots : Nat} {n : Nat} : ∀ {l : List MBlk}, eMBs regs slots n l = 0 → (∀ y ∈ l, y.Wf) → (∀ b ∈ l, ∀ i ∈ b.code, MiOk regs slots i) ∧ ∀ b ∈ l, TmOk regs n b.term
  | [], _, _ => ⟨fun b hb => by simp at hb, fun b hb => by simp at hb⟩
  | x :: r, h, hw => by
    unfold eMBs at h
    split at h
    · rename_i hx
      obtain ⟨h1, h2⟩ := eMBs_ok h (fun z hz => hw z (by simp [hz]))
      unfold eMB at hx
      split at hx
      · rename_i hi
        have hxw := hw x (by simp)
        have hall := ((eCd_ok regs slots x.code 0 (by omega)).1 hi).1
        refine ⟨fun b hb i him => ?_, fun b hb => ?_⟩
        · rcases List.mem_cons.1 hb with rfl | hb
          · exact eM_ok (hall i him) (hxw.1 i him)
          · exact h1 b hb i him
        · rcases List.mem_cons.1 hb with rfl | hb
          · exact eT_ok hx
          · exact h2 b hb
      · rename_i hi; exact absurd hx hi
    · rename_i hx; exact absurd h hx

/-- What Check's acceptance says. -/
theorem eMF_ok {args regs slots : Int} {bs : List MBlk} (h : eMF args regs slots bs = 0) (hw : ∀ y ∈ bs, y.Wf) : ∃ n m : Nat, regs = n ∧ slots = m ∧ 0 ≤ args ∧ args ≤ m ∧ OkM n m bs := by
  unfold eMF at h
  split at h
  · rename_i hz
    unfold eMSz at hz
    split at hz
    · cases hz
    · rename_i h1
      split at hz
      · cases hz
      · rename_i h2
        split at hz
        · cases hz
        · split at hz
          · cases hz
          · rename_i h3
            obtain ⟨n, rfl⟩ := Int.eq_ofNat_of_zero_le (show 0 ≤ regs by omega)
            obtain ⟨m, rfl⟩ := Int.eq_ofNat_of_zero_le (show 0 ≤ slots by omega)
            obtain ⟨g1, g2⟩ := eMBs_ok h hw
            exact ⟨n, m, rfl, rfl, by omega, by omega, ⟨by omega, g1, g2⟩⟩
  · rename_i hz; exact absurd h hz

section
variable {regs slots : Nat} {bs : List MBlk} {r : Xn}

theorem GoodX.reg (h : GoodX regs slots bs r) {k : Int} (h0 : 0 ≤ k) (h1 : k < regs) : InI (rg r.regs k) := h.wfr _ (rg_mem h0 (by rw [h.lenr]; exact h1))

theorem GoodX.rd (h : GoodX regs slots bs r) {l : Int} (hl : LocOk regs slots l) : InI (rdX r l) := by
  obtain ⟨h0, ⟨h1, h2⟩ | ⟨h1, h2⟩⟩ := hl
  · rw [rdX, if_pos h1]
    exact h.wfs _ (rg_mem (by omega) (by rw [h.lens]; exact h2))
  · rw [rdX, if_neg (by omega)]
    exact h.wfr _ (rg_mem (by omega) (by rw [h.lenr]; exact h2))

theorem putX_ways (r : Xn) (l v : Int) : (l % 2 = 1 ∧ putX r l v = { r with slots := r.slots.set (l / 2).toNat v }) ∨ (¬ l % 2 = 1 ∧ putX r l v = { r with regs := r.regs.set (l / 2).toNat v }) := by
  unfold putX
  by_cases h : l % 2 = 1
  · rw [if_pos h]; exact .inl ⟨h, rfl⟩
  · rw [if_neg h]; exact .inr ⟨h, rfl⟩

theorem xperf_good (h : GoodX regs slots bs r) (hp : r.pos < (mblkAt bs r.blk).code.length) {i : Mi} (hi : MiOk regs slots i) : GoodX regs slots bs (xperf i r) := by
  unfold xperf
  split
  · rename_i h18
    rcases hi with ⟨_, hd, hs⟩ | ⟨h1, _⟩ | ⟨h1, _⟩
    · have hv := h.rd hs
      rcases putX_ways r i.dst (rdX r i.src) with ⟨_, e⟩ | ⟨_, e⟩
      · rw [e]
        refine ⟨h.blk, hp, h.lenr, by rw [List.length_set]; exact h.lens, h.wfr, fun v hv2 => ?_, Nat.le_succ_of_le h.tr⟩
        rcases List.mem_or_eq_of_mem_set hv2 with hv2 | rfl
        · exact h.wfs v hv2
        · exact hv
      · rw [e]
        refine ⟨h.blk, hp, by rw [List.length_set]; exact h.lenr, h.lens, fun v hv2 => ?_, h.wfs, Nat.le_succ_of_le h.tr⟩
        rcases List.mem_or_eq_of_mem_set hv2 with hv2 | rfl
        · exact h.wfr v hv2
        · exact hv
    · omega
    · exact absurd h18 h1
  · rename_i h18
    split
    · exact ⟨h.blk, hp, h.lenr, h.lens, h.wfr, h.wfs, by show (r.trace ++ [_]).length ≤ r.steps + 1; rw [List.length_append]; exact Nat.succ_le_succ h.tr⟩
    · rename_i h17
      split
      · refine ⟨h.blk, hp, by rw [List.length_set]; exact h.lenr, h.lens, fun v hv => ?_, h.wfs, Nat.le_succ_of_le h.tr⟩
        rcases List.mem_or_eq_of_mem_set hv with hv | rfl
        · exact h.wfr v hv
        · rcases hi with ⟨h1, _⟩ | ⟨h1, _⟩ | ⟨_, _, h1, h2, h3, h4, h5, h6, h7⟩
          · exact absurd h1 h18
          · exact absurd h1 h17
          · exact ev_in (h.reg h2 h3) (h.reg h6 h7) h1
      · exact ⟨h.blk, h.pos, h.lenr, h.lens, h.wfr, h.wfs, h.tr⟩

theorem xleav_good (h : GoodX regs slots bs r) {t : Tm} (ht : TmOk regs bs.length t) : GoodX regs slots bs (xleav t r) := by
  unfold xleav
  split
  · exact ⟨h.blk, h.pos, h.lenr, h.lens, h.wfr, h.wfs, Nat.le_succ_of_le h.tr⟩
  · rename_i h3
    refine ⟨?_, Nat.zero_le _, h.lenr, h.lens, h.wfr, h.wfs, Nat.le_succ_of_le h.tr⟩
    show (if t.kind = 2 ∧ rg r.regs t.a = 0 then t.el.toNat else t.to.toNat) < bs.length
    rcases ht with ⟨e, h1, h2⟩ | ⟨e, h1, h2, h4, h5, h6, h7⟩ | ⟨e, h1, h2⟩
    · rw [if_neg (fun h => by omega)]
      have : t.to.toNat < bs.length := by clear h3; omega
      exact this
    · have g1 : t.to.toNat < bs.length := by clear h3; omega
      have g2 : t.el.toNat < bs.length := by clear h3; omega
      split
      · exact g2
      · exact g1
    · exact absurd e h3

theorem stepX_good (hF : OkM regs slots bs) (h : GoodX regs slots bs r) : GoodX regs slots bs (stepX bs r) := by
  unfold stepX
  split
  · split
    · rename_i hp
      exact xperf_good h hp (hF.ins _ (mblkAt_mem h.blk) _ (List.getElem_mem hp))
    · exact xleav_good h (hF.tm _ (mblkAt_mem h.blk))
  · exact h

theorem runX_good (hF : OkM regs slots bs) (h : GoodX regs slots bs r) : ∀ n, GoodX regs slots bs (runX bs r n)
  | 0 => h
  | n + 1 => stepX_good hF (runX_good hF h n)

theorem xn0_good {args : List Int} (hF : OkM regs slots bs) (hl : args.length ≤ slots) (hw : ∀ v ∈ args, InI v) : GoodX regs slots bs (xn0 regs slots args) :=
  ⟨hF.ne, Nat.zero_le _, by simp [xn0], by simp [xn0]; omega, fun v hv => by
    rw [(List.mem_replicate.1 hv).2]; unfold InI; decide, fun v hv => by
    rcases List.mem_append.1 hv with hv | hv
    · exact hw v hv
    · rw [(List.mem_replicate.1 hv).2]; unfold InI; decide, Nat.le_refl _⟩

theorem xperf_steps (i : Mi) (r : Xn) : ((xperf i r).st = 2 ∧ (xperf i r).steps = r.steps ∨ (xperf i r).st = r.st ∧ (xperf i r).steps = r.steps + 1) ∧ ∃ l, (xperf i r).trace = r.trace ++ l := by
  unfold xperf
  split
  · rcases putX_ways r i.dst (rdX r i.src) with ⟨_, e⟩ | ⟨_, e⟩
    · rw [e]; exact ⟨.inr ⟨rfl, rfl⟩, [], by simp⟩
    · rw [e]; exact ⟨.inr ⟨rfl, rfl⟩, [], by simp⟩
  · split
    · exact ⟨.inr ⟨rfl, rfl⟩, [_], rfl⟩
    · split
      · exact ⟨.inr ⟨rfl, rfl⟩, [], by simp⟩
      · exact ⟨.inl ⟨rfl, rfl⟩, [], by simp⟩

theorem xleav_steps (t : Tm) (r : Xn) : ((xleav t r).st = 1 ∨ (xleav t r).st = r.st) ∧ (xleav t r).steps = r.steps + 1 ∧ (xleav t r).trace = r.trace := by
  unfold xleav
  split
  · exact ⟨.inl rfl, rfl, rfl⟩
  · exact ⟨.inr rfl, rfl, rfl⟩

theorem stepX_stop {bs : List MBlk} {r : Xn} (h : ¬ r.st = 0) : stepX bs r = r := by rw [stepX, if_neg h]

theorem stepX_steps (bs : List MBlk) (r : Xn) : (stepX bs r).steps ≤ r.steps + 1 ∧ ((stepX bs r).st = 0 → r.st = 0 ∧ (stepX bs r).steps = r.steps + 1) ∧ ∃ l, (stepX bs r).trace = r.trace ++ l := by
  by_cases h : r.st = 0
  · rw [stepX, if_pos h]
    split
    · rename_i hp
      obtain ⟨h1, h2⟩ := xperf_steps ((mblkAt bs r.blk).code[r.pos]) r
      refine ⟨by omega, fun h0 => ⟨h, by omega⟩, h2⟩
    · obtain ⟨h1, h2, h3⟩ := xleav_steps (mblkAt bs r.blk).term r
      exact ⟨by omega, fun h0 => ⟨h, h2⟩, [], by rw [h3]; simp⟩
  · rw [stepX_stop h]
    exact ⟨by omega, fun h0 => absurd h0 h, [], by simp⟩

theorem stepX_pre (bs : List MBlk) (r : Xn) : (stepX bs r).steps ≤ r.steps + 1 ∧ r.steps ≤ (stepX bs r).steps := by
  refine ⟨(stepX_steps bs r).1, ?_⟩
  by_cases h : r.st = 0
  · rw [stepX, if_pos h]
    split
    · rename_i hp
      have := (xperf_steps ((mblkAt bs r.blk).code[r.pos]) r).1
      omega
    · have := (xleav_steps (mblkAt bs r.blk).term r).2.1
      omega
  · rw [stepX_stop h]; exact Nat.le_refl _

theorem runX_steps (bs : List MBlk) (r : Xn) : ∀ n, (runX bs r n).steps ≤ r.steps + n ∧ r.steps ≤ (runX bs r n).steps ∧ ((runX bs r n).st = 0 → (runX bs r n).steps = r.steps + n)
  | 0 => ⟨Nat.le_refl _, Nat.le_refl _, fun _ => rfl⟩
  | n + 1 => by
    obtain ⟨h1, h2, h3⟩ := runX_steps bs r n
    obtain ⟨g1, g2, _⟩ := stepX_steps bs (runX bs r n)
    have g3 := (stepX_pre bs (runX bs r n)).2
    refine ⟨?_, ?_, fun h0 => ?_⟩
    · show (stepX bs (runX bs r n)).steps ≤ _
      omega
    · show _ ≤ (stepX bs (runX bs r n)).steps
      omega
    · obtain ⟨k1, k2⟩ := g2 h0
      have := h3 k1
      show (stepX bs (runX bs r n)).steps = _
      omega

theorem runX_stop (bs : List MBlk) (r : Xn) {n : Nat} (h : ¬ (runX bs r n).st = 0) : ∀ k, runX bs r (n + k) = runX bs r n
  | 0 => rfl
  | k + 1 => by
    show stepX bs (runX bs r (n + k)) = _
    rw [runX_stop bs r h k, stepX_stop h]

theorem runX_pre (bs : List MBlk) (r : Xn) (n : Nat) : ∀ k, ∃ l, (runX bs r (n + k)).trace = (runX bs r n).trace ++ l
  | 0 => ⟨[], by simp⟩
  | k + 1 => by
    obtain ⟨l, hl⟩ := runX_pre bs r n k
    obtain ⟨l2, hl2⟩ := (stepX_steps bs (runX bs r (n + k))).2.2
    refine ⟨l ++ l2, ?_⟩
    show (stepX bs (runX bs r (n + k))).trace = _
    rw [hl2, hl, List.append_assoc]

theorem runX_mono (bs : List MBlk) (r : Xn) (n : Nat) : ∀ k, (runX bs r n).steps ≤ (runX bs r (n + k)).steps
  | 0 => Nat.le_refl _
  | k + 1 => Nat.le_trans (runX_mono bs r n k) (stepX_pre bs (runX bs r (n + k))).2

end

end Go.Proofs.Ytncigbpeempnfaa

/-
  Blocks that are known whole, behind stores of several cells into their middle.
-/
namespace Go.Proofs.Ytncigbpeempnfaa
open Go.RowKit
set_option linter.unusedVariables false

/-- An array behind a store of the cells vs from o on. -/
def setA (cs : Array Value) (o : Nat) : List Value → Array Value
  | [] => cs
  | v :: r => setA (cs.setIfInBounds o v) (o + 1) r

theorem setA_size : ∀ (vs : List Value) (cs : Array Value) (o : Nat), (setA cs o vs).size = cs.size
  | [], cs, o => rfl
  | v :: r, cs, o => by rw [setA, setA_size r, Array.size_setIfInBounds]

theorem setA_out : ∀ (vs : List Value) (cs : Array Value) (o j : Nat), j < o ∨ o + vs.length ≤ j → (setA cs o vs)[j]? = cs[j]?
  | [], cs, o, j, h => rfl
  | v :: r, cs, o, j, h => by
    simp only [List.length_cons] at h
    rw [setA, setA_out r _ _ _ (by omega), Array.getElem?_setIfInBounds, if_neg (by omega)]

theorem setA_in : ∀ (vs : List Value) (cs : Array Value) (o i : Nat) (v : Value), vs[i]? = some v → o + vs.length ≤ cs.size → (setA cs o vs)[o + i]? = some v
  | [], cs, o, i, v, h, _ => by simp at h
  | y :: r, cs, o, 0, v, h, hs => by
    simp only [List.length_cons] at hs
    simp only [List.getElem?_cons_zero, Option.some.injEq] at h
    subst h
    rw [setA, setA_out r _ _ _ (by omega), Nat.add_zero, Array.getElem?_setIfInBounds, if_pos rfl, if_pos (by omega)]
  | y :: r, cs, o, i + 1, v, h, hs => by
    simp only [List.length_cons] at hs
    rw [List.getElem?_cons_succ] at h
    rw [setA, show o + (i + 1) = o + 1 + i by omega]
    exact setA_in r _ _ i v h (by rw [Array.size_setIfInBounds]; omega)

section
variable {w : World} {p q : Nat} {T : TypeId} {cs : Array Value}

theorem Row.there (h : Row w p T cs) (o n : Nat) (hn : o + n ≤ cs.size) : w.there p o n := fun j hj =>
  ⟨by rw [h.cell, Array.getElem?_eq_getElem (by omega)]; rfl, h.frozen _⟩

theorem Row.writes : ∀ (vs : List Value) {w : World} {cs : Array Value} (o : Nat), Row w p T cs → Row (w.setCells p o vs) p T (setA cs o vs)
  | [], _, _, _, h => h
  | v :: r, w, cs, o, h => Row.writes r (o + 1) (h.put o v)

theorem Row.farc : ∀ (vs : List Value) {w : World} (o : Nat), p ≠ q → Row w p T cs → Row (w.setCells q o vs) p T cs
  | [], _, _, _, h => h
  | v :: r, w, o, hq, h => Row.farc r (o + 1) hq (h.far (q := ⟨q, o, none⟩) hq v)

theorem blw_setCells {B : Nat} {a : World} (hp : B ≤ p) : ∀ (vs : List Value) {w : World} (o : Nat), Below B a w → Below B a (w.setCells p o vs)
  | [], _, _, h => h
  | v :: r, w, o, h => blw_setCells hp r (o + 1) (h.setCell (p := ⟨p, o, none⟩) hp v)

end

end Go.Proofs.Ytncigbpeempnfaa
