/-
  What memory shows of a certificate that Copy has made.
-/
import Derived.Test.YtcoehkphdfejjaaMNest
import Derived.Test.YtcoehkphdfejjaaPNest
import Derived.Test.YtcoehkphdfejjaaCkIn
import Derived.Test.YtcoehkphdfejjaaMacOwn
namespace Go.Proofs.Ytcoehkphdfejjaa
open Go.RowKit
set_option linter.unusedVariables false
set_option linter.unusedSimpArgs false

theorem mis_fit {w : World} {B : Nat} {A : Option Addr} {xs : List Mi} (h : MisAt w B A xs) : ∀ y ∈ xs, y.Ok := fun y hy => by
  obtain ⟨i, hi, rfl⟩ := List.getElem_of_mem hy
  obtain ⟨b, o, _, _, hc⟩ := h.at_ hi
  exact hc.ok

theorem mblks_fit {w : World} {B : Nat} {A : Option Addr} {xs : List MBlk} (h : MBlksAt w B A xs) : ∀ x ∈ xs, ∀ y ∈ x.code, y.Ok := fun x hx => by
  obtain ⟨i, hi, rfl⟩ := List.getElem_of_mem hx
  obtain ⟨b, o, _, _, hc⟩ := h.at_ hi
  obtain ⟨A, c, _, _, _, h4⟩ := hc.code
  exact mis_fit h4

/-- A copied certificate, seen. -/
theorem ceAt_own {w : World} {base : Nat} {Av1 Av2 Av3 : Option Addr} {cv1 cv2 cv3 : Nat} {vs1 vs2 vs3 : List Value} {c : Ct} {inv : List (List Pr)} (h1 : NestV bshp w base (.slice Av1 c.bs.length cv1) vs1 c.bs) (h2 : NestV mshp w base (.slice Av2 c.ms.length cv2) vs2 c.ms) (h3 : NestV pshp w base (.slice Av3 inv.length cv3) vs3 inv) (hok : ∀ x ∈ c.ms, ∀ y ∈ x.code, y.Ok) :
    CeAt w w.heap.size Av1 cv1 Av2 cv2 Av3 cv3 { c with inv := inv } := by
  obtain ⟨A1, c1, e1, p1, q1, r1⟩ := nest_blks h1
  obtain ⟨A2, c2, e2, p2, q2, r2⟩ := nest_mblks h2 hok
  obtain ⟨A3, c3, e3, p3, q3, r3⟩ := nest_pp h3
  injection e1 with a1 _ b1
  injection e2 with a2 _ b2
  injection e3 with a3 _ b3
  subst a1 a2 a3 b1 b2 b3
  exact ⟨r1, r2, r3, ⟨p1, q1⟩, ⟨p2, q2⟩, ⟨p3, q3⟩⟩

end Go.Proofs.Ytcoehkphdfejjaa
