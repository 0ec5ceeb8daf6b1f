/-
  A function in a box, its blocks lists of one's own (taken out of XFcLawM).
-/
import Derived.Test.YtmmdhhjpbolkhaaGreatPk4
import Derived.Test.YtmmdhhjpbolkhaaGreatMNest
namespace Go.Proofs.YtmmdhhjpbolkhaaGreat
open Go.RowKit
set_option linter.unusedVariables false

/-- A function in a box, its blocks a list of one's own. -/
structure FX (x : Nat) (f : Fd) (A : Option Addr) (c : Nat) (W : World) : Prop where
  row : Row W x 24 #[.int .i64 f.args, .int .i64 f.regs, .slice A f.bs.length c]
  nst : ∃ base vs, NestV bshp W base (.slice A f.bs.length c) vs f.bs

structure GX' (x : Nat) (g : Gd) (A : Option Addr) (c : Nat) (W : World) : Prop where
  row : Row W x 27 #[.int .i64 g.args, .int .i64 g.regs, .int .i64 g.slots, .slice A g.ms.length c]
  nst : ∃ base vs, NestV mshp W base (.slice A g.ms.length c) vs g.ms

theorem FX.next {x : Nat} {f : Fd} {A : Option Addr} {c : Nat} {W W' : World} (h : FX x f A c W) (hb : Below W.heap.size W W') : FX x f A c W' := ⟨h.row.below hb h.row.lt, let ⟨b, vs, hn⟩ := h.nst; ⟨b, vs, hn.below hb⟩⟩

theorem GX'.next {x : Nat} {f : Gd} {A : Option Addr} {c : Nat} {W W' : World} (h : GX' x f A c W) (hb : Below W.heap.size W W') : GX' x f A c W' := ⟨h.row.below hb h.row.lt, let ⟨b, vs, hn⟩ := h.nst; ⟨b, vs, hn.below hb⟩⟩

theorem FX.at_ {x : Nat} {f : Fd} {A : Option Addr} {c : Nat} {W : World} (h : FX x f A c W) : BlksAt W W.heap.size A f.bs := by
  obtain ⟨b, vs, hn⟩ := h.nst
  obtain ⟨A', c', hv, _, _, hbs⟩ := nest_blks hn
  injection hv with hv1
  subst hv1
  exact hbs

theorem GX'.at_ {x : Nat} {f : Gd} {A : Option Addr} {c : Nat} {W : World} (h : GX' x f A c W) (hok : ∀ x ∈ f.ms, ∀ y ∈ x.code, y.Ok) : MBlksAt W W.heap.size A f.ms := by
  obtain ⟨b, vs, hn⟩ := h.nst
  obtain ⟨A', c', hv, _, _, hbs⟩ := nest_mblks hn hok
  injection hv with hv1
  subst hv1
  exact hbs

end Go.Proofs.YtmmdhhjpbolkhaaGreat
