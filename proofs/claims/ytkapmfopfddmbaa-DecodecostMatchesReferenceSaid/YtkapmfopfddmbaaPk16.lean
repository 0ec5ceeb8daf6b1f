import Derived.Test.YtkapmfopfddmbaaPk1
import Derived.LoopTactic
import Derived.Below
import Derived.Test.YtkapmfopfddmbaaPk7
import Derived.Deep.LoopGhost
import Derived.Deep.RegionWith
import Derived.Deep.RegionHeld3
import Derived.Deep.DeepMust

/-
  The reference's in, Instr and Term.
-/
namespace Go.Proofs.Ytkapmfopfddmbaa
open Go.RowKit
set_option linter.unusedVariables false

def inr (v n : Int) : Bool := decide (0 ≤ v) && decide (v < n)

theorem fR_inr (n : Int) (u : Bool) (v : Int) : fR n (u, v) = (!u || inr v n) := by
  cases u
  · rfl
  · simp only [fR, inr, Bool.true_and, Bool.not_true, Bool.false_or, Bool.not_or]
    congr 1
    · by_cases h : v < 0
      · rw [decide_eq_true h, decide_eq_false (by omega)]; rfl
      · rw [decide_eq_false h, decide_eq_true (by omega)]; rfl
    · by_cases h : n ≤ v
      · rw [decide_eq_true h, decide_eq_false (by omega)]; rfl
      · rw [decide_eq_false h, decide_eq_true (by omega)]; rfl

/-- The error of an instruction, by the tests' outcomes. -/
def eIb (d a b i pd pa pb zd za zb zi : Bool) : Int :=
  if (!d || pd) && (!a || pa) && (!b || pb) then if (d || !zd) && (a || !za) && (b || !zb) && (i || !zi) then 0 else 12 else 9

theorem eI_b (x : In) (regs : Int) {d a b i pd pa pb zd za zb zi : Bool} (ho : srcO x.op = true) (hd : uD x.op = d) (ha : uA x.op = a) (hb : uB x.op = b) (hi : uI x.op = i)
    (h1 : inr x.d regs = pd) (h2 : inr x.a regs = pa) (h3 : inr x.b regs = pb) (z1 : (x.d != 0) = zd) (z2 : (x.a != 0) = za) (z3 : (x.b != 0) = zb) (z4 : (x.imm != 0) = zi) : eI x regs = eIb d a b i pd pa pb zd za zb zi := by
  subst hd ha hb hi h1 h2 h3 z1 z2 z3 z4
  rw [eI, ho, eIb]
  simp only [okR, okZ, In.regF, In.allF, List.all_cons, List.all_nil, fR_inr, fZ, Bool.and_true, Bool.not_and, Bool.not_not, Bool.and_assoc, if_true]

theorem shapes {op : Int} (h : srcO op = true) : (1 ≤ op ∧ op ≤ 17) ∧ ((uD op = true ∧ uA op = false ∧ uB op = false ∧ uI op = true ∧ (op != 1) = false) ∨ (uD op = true ∧ uA op = true ∧ uB op = false ∧ uI op = false ∧ (op != 1) = true) ∨
    (uD op = true ∧ uA op = true ∧ uB op = true ∧ uI op = false ∧ (op != 1) = true) ∨ (uD op = false ∧ uA op = true ∧ uB op = false ∧ uI op = false ∧ (op != 1) = true)) := by
  have h1 : 1 ≤ op ∧ op ≤ 17 := by
    simp only [srcO, uO, Bool.and_eq_true, decide_eq_true_eq, Bool.not_eq_true', beq_eq_false_iff_ne] at h
    omega
  refine ⟨h1, ?_⟩
  rcases (by omega : op = 1 ∨ (2 ≤ op ∧ op ≤ 4) ∨ (5 ≤ op ∧ op ≤ 16) ∨ op = 17) with h | h | h | h
  · subst h; exact .inl ⟨rfl, rfl, rfl, rfl, rfl⟩
  · exact .inr (.inl ⟨decide_eq_true (by omega), decide_eq_true (by omega), decide_eq_false (by omega), decide_eq_false (by omega), by simp; omega⟩)
  · exact .inr (.inr (.inl ⟨decide_eq_true (by omega), decide_eq_true (by omega), decide_eq_true (by omega), decide_eq_false (by omega), by simp; omega⟩))
  · subst h; exact .inr (.inr (.inr ⟨rfl, rfl, rfl, rfl, rfl⟩))

theorem srcO_no {op : Int} (h : srcO op = false) : op < 1 ∨ 17 < op := by
  by_cases h1 : 1 ≤ op ∧ op ≤ 17
  · have : srcO op = true := by
      simp only [srcO, uO, Bool.and_eq_true, decide_eq_true_eq, Bool.not_eq_true', beq_eq_false_iff_ne]
      omega
    rw [h] at this
    cases this
  · omega

end Go.Proofs.Ytkapmfopfddmbaa

/-
  The reference's Term.
-/
namespace Go.Proofs.Ytkapmfopfddmbaa
open Go.RowKit
set_option linter.unusedVariables false

theorem fR_off (n v : Int) : fR n (false, v) = true := rfl

theorem fZ_on (v : Int) : fZ (true, v) = true := rfl

theorem fZ_off (v : Int) : fZ (false, v) = !(v != 0) := rfl

theorem eT_1 (t : Tm) (regs blocks : Int) (h : t.kind = 1) {p z1 z2 : Bool} (hp : inr t.to blocks = p) (h1 : (t.a != 0) = z1) (h2 : (t.el != 0) = z2) : eT t regs blocks = if p then (if z1 then 12 else if z2 then 12 else 0) else 11 := by
  subst hp h1 h2
  rw [eT, kO, h]
  simp only [Tm.aF, Tm.toF, Tm.allF, h, okR, okZ, List.all_cons, List.all_nil, Bool.and_true, fR_inr, fZ]
  cases inr t.to blocks <;> cases t.a != 0 <;> cases t.el != 0 <;> rfl

theorem eT_2 (t : Tm) (regs blocks : Int) (h : t.kind = 2) {p q r : Bool} (hp : inr t.a regs = p) (hq : inr t.to blocks = q) (hr : inr t.el blocks = r) : eT t regs blocks = if p then (if q then if r then 0 else 11 else 11) else 9 := by
  subst hp hq hr
  rw [eT, kO, h]
  simp only [Tm.aF, Tm.toF, Tm.allF, h, okR, okZ, List.all_cons, List.all_nil, Bool.and_true, fR_inr, fZ]
  cases inr t.a regs <;> cases inr t.to blocks <;> cases inr t.el blocks <;> rfl

theorem eT_3 (t : Tm) (regs blocks : Int) (h : t.kind = 3) {p z1 z2 : Bool} (hp : inr t.a regs = p) (h1 : (t.to != 0) = z1) (h2 : (t.el != 0) = z2) : eT t regs blocks = if p then (if z1 then 12 else if z2 then 12 else 0) else 9 := by
  subst hp h1 h2
  rw [eT, kO, h]
  simp only [Tm.aF, Tm.toF, Tm.allF, h, okR, okZ, List.all_cons, List.all_nil, Bool.and_true, fR_inr, fZ]
  cases inr t.a regs <;> cases t.to != 0 <;> cases t.el != 0 <;> rfl

end Go.Proofs.Ytkapmfopfddmbaa

/-
  The reference's Check.
-/
namespace Go.Proofs.Ytkapmfopfddmbaa
open Go.RowKit
set_option linter.unusedVariables false

end Go.Proofs.Ytkapmfopfddmbaa

/-
  The reference's Instr of layer 8.
-/
namespace Go.Proofs.Ytkapmfopfddmbaa
open Go.RowKit
set_option linter.unusedVariables false

theorem mopc_ways (op : Int) : (mopc op = false ∧ (op < 1 ∨ 18 < op ∨ op = 2)) ∨ (mopc op = true ∧ 1 ≤ op ∧ op ≤ 18 ∧ (op == 2) = false) := by
  unfold mopc uO
  by_cases h : 1 ≤ op ∧ op ≤ 18
  · rw [decide_eq_true h]
    by_cases h2 : op = 2
    · left; rw [h2]; exact ⟨rfl, by omega⟩
    · right
      have : (op == 2) = false := beq_eq_false_iff_ne.2 h2
      rw [this]
      exact ⟨rfl, h.1, h.2, rfl⟩
  · left
    rw [decide_eq_false h]
    exact ⟨rfl, by omega⟩

end Go.Proofs.Ytkapmfopfddmbaa

/-
  The reference's Check of layer 8.
-/
namespace Go.Proofs.Ytkapmfopfddmbaa
open Go.RowKit
set_option linter.unusedVariables false

/-- What the loop over a block carries: the function's box, the block's box, the block's instructions. -/
structure RK (w : World) (args regs slots : Int) (A : Option Addr) (n c z : Nat) (A1 : Option Addr) (y : MBlk) (c1 : Nat) (W : World) : Prop where
  below : Below w.heap.size w W
  b : Row W w.heap.size 68 #[.int .i64 args, .int .i64 regs, .int .i64 slots, .slice A n c]
  p : Row W z 109 #[.slice A1 y.code.length c1, .int .i64 y.term.kind, .int .i64 y.term.a, .int .i64 y.term.to, .int .i64 y.term.el]
  i : MisAt W w.heap.size A1 y.code

section
variable {w W W' : World} {args regs slots : Int} {A A1 : Option Addr} {n c z c1 : Nat} {y : MBlk}

theorem RK.next (h : RK w args regs slots A n c z A1 y c1 W) (hb : Below W.heap.size W W') : RK w args regs slots A n c z A1 y c1 W' :=
  ⟨h.below.trans (hb.mono h.below.size), h.b.below hb h.b.lt, h.p.below hb h.p.lt, h.i.below (hb.mono h.below.size)⟩

theorem RK.drewN (h : RK w args regs slots A n c z A1 y c1 W) (k : Nat) : RK w args regs slots A n c z A1 y c1 (W.drewN k) := h.next (blw_drew W k)

theorem RK.drew (h : RK w args regs slots A n c z A1 y c1 W) : RK w args regs slots A n c z A1 y c1 W.drew := h.drewN 1

theorem MisAt.get {B b o m : Nat} {xs : List Mi} (h : MisAt W B (some ⟨b, o, none⟩) xs) (hm : m < xs.length) : xs[m].At W b (o + m * 7) := by
  obtain ⟨b', o', e, hb, hc⟩ := h.at_ hm
  injection e with e
  injection e with e1 e2
  subst e1
  subst e2
  exact hc

theorem RK.cells {b1 o1 m : Nat} {x : Mi} (h : RK w args regs slots A n c z (some ⟨b1, o1, none⟩) y c1 W) (hx : y.code[m]? = some x) :
    RK w args regs slots A n c z (some ⟨b1, o1, none⟩) y c1 W ∧ W.cell? ⟨z, 0, none⟩ = some (.slice (some ⟨b1, o1, none⟩) y.code.length c1) ∧ W.cell? ⟨w.heap.size, 1, none⟩ = some (.int .i64 regs) ∧ W.cell? ⟨w.heap.size, 2, none⟩ = some (.int .i64 slots) ∧
    W.cell? ⟨b1, o1 + m * 7, none⟩ = some (.int .i64 x.op) ∧ W.cell? ⟨b1, o1 + m * 7 + 1, none⟩ = some (.int .i64 x.d) ∧ W.cell? ⟨b1, o1 + m * 7 + 2, none⟩ = some (.int .i64 x.a) ∧ W.cell? ⟨b1, o1 + m * 7 + 3, none⟩ = some (.int .i64 x.b) ∧ W.cell? ⟨b1, o1 + m * 7 + 4, none⟩ = some (.int .i64 x.imm) ∧ W.cell? ⟨b1, o1 + m * 7 + 5, none⟩ = some (.int .i64 x.dst) ∧ W.cell? ⟨b1, o1 + m * 7 + 6, none⟩ = some (.int .i64 x.src) := by
  obtain ⟨hm, rfl⟩ := List.getElem?_eq_some_iff.1 hx
  have g := h.i.get hm
  exact ⟨h, h.p.cell 0, h.b.cell 1, h.b.cell 2, g.c0, g.c1, g.c2, g.c3, g.c4, g.c5, g.c6⟩

end

end Go.Proofs.Ytkapmfopfddmbaa
