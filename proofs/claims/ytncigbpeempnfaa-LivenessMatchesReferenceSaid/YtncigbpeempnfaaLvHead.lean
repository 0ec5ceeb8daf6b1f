/-
  What the walks of layer 23 carry from call to call: the function in its box.
-/
import Derived.Test.YtncigbpeempnfaaLvAwk
import Derived.Deep.RegionHeld3
import Derived.Deep.DeepMust
namespace Go.Proofs.Ytncigbpeempnfaa
open Go.RowKit
set_option linter.unusedVariables false

structure LF23 (w : World) (z : Nat) (args regs : Int) (A : Option Addr) (bs : List Blk) (c : Nat) (W : World) : Prop where
  below : Below w.heap.size w W
  f : Row W z 24 #[.int .i64 args, .int .i64 regs, .slice A bs.length c]
  b : BlksAt W w.heap.size A bs

section
variable {w : World} {z : Nat} {args regs : Int} {A : Option Addr} {bs : List Blk} {c : Nat} {W W' : World}

theorem LF23.next (h : LF23 w z args regs A bs c W) (hb : Below W.heap.size W W') : LF23 w z args regs A bs c W' :=
  ⟨h.below.trans (hb.mono h.below.size), h.f.below hb h.f.lt, h.b.below (hb.mono h.below.size)⟩

theorem LF23.drewN (h : LF23 w z args regs A bs c W) (n : Nat) : LF23 w z args regs A bs c (W.drewN n) := h.next ⟨rfl, rfl, rfl, Nat.le_refl _, fun _ _ => rfl⟩

theorem LF23.drew (h : LF23 w z args regs A bs c W) : LF23 w z args regs A bs c W.drew := h.drewN 1

theorem LF23.blks (h : LF23 w z args regs A bs c W) : BlksAt W W.heap.size A bs := h.b.more h.below.size

theorem LF23.start (hs : BlksAt w w.heap.size A bs) : LF23 w w.heap.size args regs A bs c (w.alloc (.cells #[.int .i64 args, .int .i64 regs, .slice A bs.length c] 24)) :=
  ⟨(Below.refl _ _).alloc (Nat.le_refl _) _, Row.new _ _ _, hs.alloc (Nat.le_refl _) _⟩

end

/-- A valid function, as the contracts want it. -/
theorem fn_of {args regs : Int} {bs : List Blk} (hf : FewF regs bs) (he : eF args regs bs = 0) (hw : ∀ y ∈ bs, y.Wf) : ∃ N : Nat, regs = N ∧ N ≤ 60 ∧ OkF N bs ∧ FnOk N bs := by
  obtain ⟨N, e, _, _, hO⟩ := eF_ok he hw
  obtain ⟨h1, h2, h3⟩ := hf
  exact ⟨N, e, by omega, hO, fnOk hO (eF_ops he) (by omega) (by omega) (by omega)⟩

theorem useL_has {x : Blk} {N : Nat} {v : Nat} (h : v < N) : decide ((v : Int) ∈ useL x N) = bUse x v := by
  rw [Bool.eq_iff_iff, decide_eq_true_eq, useL, regL_mem]
  exact ⟨fun h => h.2.2, fun h' => ⟨by omega, by omega, h'⟩⟩

theorem defL_has {x : Blk} {N : Nat} {v : Nat} (h : v < N) : decide ((v : Int) ∈ defL x N) = bDef x v := by
  rw [Bool.eq_iff_iff, decide_eq_true_eq, defL, regL_mem]
  exact ⟨fun h => h.2.2, fun h' => ⟨by omega, by omega, h'⟩⟩

theorem outL_has {bs : List Blk} {N : Nat} {v i : Nat} (h : v < N) : decide ((v : Int) ∈ outL bs N i) = lvO bs v i := by
  rw [Bool.eq_iff_iff, decide_eq_true_eq, outL, regL_mem]
  exact ⟨fun h => h.2.2, fun h' => ⟨by omega, by omega, h'⟩⟩

theorem inL_has' {bs : List Blk} {N : Nat} {v i : Nat} (h : v < N) : decide ((v : Int) ∈ inL bs N i) = lvB bs v i := by
  rw [Bool.eq_iff_iff, decide_eq_true_eq, inL, regL_mem]
  exact ⟨fun h => h.2.2, fun h' => ⟨by omega, by omega, h'⟩⟩

/-- An element of a list of lists, given by a function. -/
theorem SeesII.fl {w : World} {B n : Nat} {A : Option Addr} {F : Nat → List Int} (h : SeesII w B A (fL23 F n)) {i : Nat} (hi : i < n) : ∃ b o A' c', A = some ⟨b, o, none⟩ ∧ w.cell? ⟨b, o + i, none⟩ = some (.slice A' (F i).length c') ∧ (F i).length ≤ maxLen ∧ Sees w B A' (ints (F i)) := by
  obtain ⟨b, o, A', c', e, _, h1, h2, h3⟩ := h.at_ (i := i) (by rw [fL_len]; exact hi)
  have hg : (fL23 F n)[i]'(by rw [fL_len]; exact hi) = F i := by
    have := fL_get F hi
    rw [List.getElem?_eq_getElem (by rw [fL_len]; exact hi)] at this
    injection this
  rw [hg] at h1 h2 h3
  exact ⟨b, o, A', c', e, h1, h2, h3⟩

/-- The function, what In and what Out returned. -/
structure EW23 (w : World) (z : Nat) (args regs : Int) (A : Option Addr) (bs : List Blk) (c : Nat) (Ai : Option Addr) (xs : List (List Int)) (Ao : Option Addr) (ys : List (List Int)) (W : World) : Prop where
  lw : LF23 w z args regs A bs c W
  si : SeesII W W.heap.size Ai xs
  so : SeesII W W.heap.size Ao ys

theorem EW23.next {w : World} {z : Nat} {args regs : Int} {A : Option Addr} {bs : List Blk} {c : Nat} {Ai Ao : Option Addr} {xs ys : List (List Int)} {W W' : World} (h : EW23 w z args regs A bs c Ai xs Ao ys W) (hb : Below W.heap.size W W') : EW23 w z args regs A bs c Ai xs Ao ys W' :=
  ⟨h.lw.next hb, (h.si.below hb).more hb.size, (h.so.below hb).more hb.size⟩

/-- A block of the function. -/
structure XC (b o : Nat) (A1 : Option Addr) (c1 : Nat) (x : Blk) (W : World) : Prop where
  k0 : W.cell? ⟨b, o, none⟩ = some (.slice A1 x.code.length c1)
  k1 : W.cell? ⟨b, o + 1, none⟩ = some (.int .i64 x.term.kind)
  k2 : W.cell? ⟨b, o + 2, none⟩ = some (.int .i64 x.term.a)
  k3 : W.cell? ⟨b, o + 3, none⟩ = some (.int .i64 x.term.to)
  k4 : W.cell? ⟨b, o + 4, none⟩ = some (.int .i64 x.term.el)
  ins : InsAt W W.heap.size A1 x.code
  lt : b < W.heap.size

theorem XC.next {b o : Nat} {A1 : Option Addr} {c1 : Nat} {x : Blk} {W W' : World} (h : XC b o A1 c1 x W) (hb : Below W.heap.size W W') : XC b o A1 c1 x W' :=
  ⟨(hb.cell (p := ⟨b, o, none⟩) h.lt).trans h.k0, (hb.cell (p := ⟨b, o + 1, none⟩) h.lt).trans h.k1, (hb.cell (p := ⟨b, o + 2, none⟩) h.lt).trans h.k2, (hb.cell (p := ⟨b, o + 3, none⟩) h.lt).trans h.k3, (hb.cell (p := ⟨b, o + 4, none⟩) h.lt).trans h.k4, (h.ins.below hb).more hb.size, Nat.lt_of_lt_of_le h.lt hb.size⟩

theorem LF23.xc {w : World} {z : Nat} {args regs : Int} {A : Option Addr} {bs : List Blk} {c : Nat} {W : World} (h : LF23 w z args regs A bs c W) {i : Nat} (hi : i < bs.length) : ∃ b o A1 c1, A = some ⟨b, o, none⟩ ∧ c1 ≤ maxLen ∧ bs[i].code.length ≤ c1 ∧ XC b (o + i * 5) A1 c1 bs[i] W := by
  obtain ⟨b, o, e, hb, hx⟩ := h.blks.at_ hi
  obtain ⟨A1, c1, f0, h1, h2, hin⟩ := hx.code
  exact ⟨b, o, A1, c1, e, h2, h1, f0, hx.t0, hx.t1, hx.t2, hx.t3, hin, hb⟩

/-- The same, a block in its box, and its successors. -/
structure NW (w : World) (z : Nat) (args regs : Int) (A : Option Addr) (bs : List Blk) (c : Nat) (Ai : Option Addr) (xs : List (List Int)) (xb : Nat) (A1 : Option Addr) (c1 : Nat) (x : Blk) (As : Option Addr) (l : List Int) (W : World) : Prop where
  ew : EW23 w z args regs A bs c Ai xs none [] W
  xc : XC xb 0 A1 c1 x W
  se : Sees W W.heap.size As (ints l)

theorem NW.next {w : World} {z : Nat} {args regs : Int} {A : Option Addr} {bs : List Blk} {c : Nat} {Ai : Option Addr} {xs : List (List Int)} {xb : Nat} {A1 : Option Addr} {c1 : Nat} {x : Blk} {As : Option Addr} {l : List Int} {W W' : World} (h : NW w z args regs A bs c Ai xs xb A1 c1 x As l W) (hb : Below W.heap.size W W') : NW w z args regs A bs c Ai xs xb A1 c1 x As l W' :=
  ⟨h.ew.next hb, h.xc.next hb, (h.se.below hb).more hb.size⟩

end Go.Proofs.Ytncigbpeempnfaa
