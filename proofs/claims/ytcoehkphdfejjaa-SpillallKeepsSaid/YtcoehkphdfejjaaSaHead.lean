/-
  What the walks of layer 22 carry.
-/
import Derived.Test.YtcoehkphdfejjaaPk43
import Derived.Test.YtcoehkphdfejjaaCkOwn
import Derived.Test.YtcoehkphdfejjaaSrcFew
import Derived.Test.YtcoehkphdfejjaaPk1
namespace Go.Proofs.Ytcoehkphdfejjaa
open Go.RowKit Go.Deep
set_option linter.unusedVariables false
set_option linter.unusedSimpArgs false

/-- The function that came in, in its box. -/
structure FZ (w : World) (a r : Int) (A : Option Addr) (bs : List Blk) (c : Nat) (W : World) : Prop where
  row : Row W w.heap.size 24 #[.int .i64 a, .int .i64 r, .slice A bs.length c]
  see : BlksAt W w.heap.size A bs
  blw : Below w.heap.size w W

section
variable {w W W' : World} {a r : Int} {A : Option Addr} {bs : List Blk} {c : Nat}

theorem FZ.start (h : BlksAt w w.heap.size A bs) : FZ w a r A bs c (w.alloc (.cells #[.int .i64 a, .int .i64 r, .slice A bs.length c] 24)) :=
  ⟨Row.new _ _ _, h.below ((Below.refl _ _).alloc (Nat.le_refl _) _), (Below.refl _ _).alloc (Nat.le_refl _) _⟩

theorem FZ.next (h : FZ w a r A bs c W) (hb : Below W.heap.size W W') : FZ w a r A bs c W' :=
  ⟨h.row.below hb h.row.lt, h.see.below (hb.mono h.blw.size), h.blw.trans (hb.mono h.blw.size)⟩

theorem FZ.at_ (h : FZ w a r A bs c W) : BlksAt W W.heap.size A bs := h.see.more h.blw.size

end

/-- What memory shows of a certificate of one's own. -/
theorem SaP.see {w W : World} {q : Ct} {A1 A2 A3 : Option Addr} {c1 c2 c3 : Nat} (n1 : NC bshp w (.slice A1 q.bs.length c1) q.bs W) (n2 : NC mshp w (.slice A2 q.ms.length c2) q.ms W) (n3 : NC pshp w (.slice A3 q.inv.length c3) q.inv W) (hok : ∀ x ∈ q.ms, ∀ y ∈ x.code, y.Ok) : CeAt W W.heap.size A1 c1 A2 c2 A3 c3 q := by
  obtain ⟨⟨v1, m1⟩, _⟩ := n1
  obtain ⟨⟨v2, m2⟩, _⟩ := n2
  obtain ⟨⟨v3, m3⟩, _⟩ := n3
  exact ceAt_own m1 m2 m3 hok

theorem spR_ok {a r : Int} {bs : List Blk} (hr : r ≤ 1000000) : ∀ x ∈ (spR a r bs).1.ms, ∀ y ∈ x.code, y.Ok := by
  unfold spR
  split
  · intro x hx; cases hx
  · rename_i h0
    split
    · intro x hx; cases hx
    · have h0 : eF a r bs = 0 := by omega
      obtain ⟨_, _, _, _, _, _, h7⟩ := eF_of h0
      intro x hx
      obtain ⟨b, hb, rfl⟩ := List.mem_map.1 hx
      exact sp_locok (fun i hi => in22_of ((h7 b hb).1 i hi) hr) (tm22_of (h7 b hb).2 hr)

theorem nCt_see (w : World) : CeAt w w.heap.size none 0 none 0 none 0 nCt :=
  ⟨BlksAt.nil, MBlksAt.nil, ⟨[], fun h => absurd rfl h, rfl, fun i x hx => by cases hx⟩, ⟨Nat.le_refl _, Nat.zero_le _⟩, ⟨Nat.le_refl _, Nat.zero_le _⟩, ⟨Nat.le_refl _, Nat.zero_le _⟩⟩

end Go.Proofs.Ytcoehkphdfejjaa
