/-
  The reference of layer 16: Few, Valid.
-/
import Derived.Test.YtcoehkphdfejjaaCkIn
import Derived.Test.YtcoehkphdfejjaaSrcFew
import Derived.Test.YtcoehkphdfejjaaMacFew
import Derived.Test.YtcoehkphdfejjaaPk2
import Derived.Test.YtcoehkphdfejjaaEdRef
namespace Go.Proofs.Ytcoehkphdfejjaa
open Go.RowKit
set_option linter.unusedVariables false

/-- What the walks carry: the certificate in its block. -/
structure CeK (w : World) (cb : Nat) (A1 : Option Addr) (k1 : Nat) (A2 : Option Addr) (k2 : Nat) (A3 : Option Addr) (k3 : Nat) (c : Ct) (W : World) : Prop where
  blw : Below w.heap.size w W
  row : Row W cb 32 #[.int .i64 c.sa, .int .i64 c.sr, .slice A1 c.bs.length k1, .int .i64 c.ta, .int .i64 c.tr, .int .i64 c.ts, .slice A2 c.ms.length k2, .slice A3 c.inv.length k3]
  see : CeAt W w.heap.size A1 k1 A2 k2 A3 k3 c

theorem CeK.next {w W W' : World} {cb : Nat} {A1 : Option Addr} {k1 : Nat} {A2 : Option Addr} {k2 : Nat} {A3 : Option Addr} {k3 : Nat} {c : Ct} (h : CeK w cb A1 k1 A2 k2 A3 k3 c W) (hb : Below W.heap.size W W') : CeK w cb A1 k1 A2 k2 A3 k3 c W' :=
  ⟨h.blw.trans (hb.mono h.blw.size), h.row.below hb h.row.lt, h.see.below (hb.mono h.blw.size)⟩

theorem CeK.alloc {w W : World} {cb : Nat} {A1 : Option Addr} {k1 : Nat} {A2 : Option Addr} {k2 : Nat} {A3 : Option Addr} {k3 : Nat} {c : Ct} (h : CeK w cb A1 k1 A2 k2 A3 k3 c W) (o : Obj) : CeK w cb A1 k1 A2 k2 A3 k3 c (W.alloc o) := h.next ((Below.refl _ _).alloc (Nat.le_refl _) o)

theorem CeK.start {w : World} {A1 : Option Addr} {k1 : Nat} {A2 : Option Addr} {k2 : Nat} {A3 : Option Addr} {k3 : Nat} {c : Ct} (h : CeAt w w.heap.size A1 k1 A2 k2 A3 k3 c) : CeK w w.heap.size A1 k1 A2 k2 A3 k3 c (w.alloc (.cells #[.int .i64 c.sa, .int .i64 c.sr, .slice A1 c.bs.length k1, .int .i64 c.ta, .int .i64 c.tr, .int .i64 c.ts, .slice A2 c.ms.length k2, .slice A3 c.inv.length k3] 32)) := by
  have hb := (Below.refl w.heap.size w).alloc (Nat.le_refl _) (.cells #[.int .i64 c.sa, .int .i64 c.sr, .slice A1 c.bs.length k1, .int .i64 c.ta, .int .i64 c.tr, .int .i64 c.ts, .slice A2 c.ms.length k2, .slice A3 c.inv.length k3] 32)
  exact ⟨hb, Row.new w _ _, h.below hb⟩

/-- A small certificate. -/
structure SmC (c : Ct) : Prop where
  f : FewF c.sr c.bs
  m : FewM c.tr c.ts c.ms
  n : c.inv.length ≤ 40
  l : ∀ x ∈ c.inv, x.length ≤ 400

def SmC.P (c : Ct) (w : World) (e : Ending) (w' : World) : Prop := (∃ b, e = .returned (.bool b) ∧ (b = true → SmC c)) ∧ Below w.heap.size w w'

end Go.Proofs.Ytcoehkphdfejjaa
