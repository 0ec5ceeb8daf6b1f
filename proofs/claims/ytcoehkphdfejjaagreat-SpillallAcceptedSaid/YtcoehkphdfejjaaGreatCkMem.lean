/-
  What the walks over a certificate's check carry in memory.
-/
import Derived.Test.YtcoehkphdfejjaaGreatCkFit
import Derived.Test.YtcoehkphdfejjaaGreatPk5
import Derived.Test.YtcoehkphdfejjaaGreatPk3
namespace Go.Proofs.YtcoehkphdfejjaaGreat
open Go.RowKit
set_option linter.unusedVariables false

theorem Row.put7 {W : World} {p : Nat} {T : TypeId} {z0 z1 z2 z3 z4 z5 z6 : Value} (h : Row W p T #[z0, z1, z2, z3, z4, z5, z6]) (a0 a1 a2 a3 a4 a5 a6 : Value) :
    Row (((((((W.setCell ⟨p, 0, none⟩ a0).setCell ⟨p, 1, none⟩ a1).setCell ⟨p, 2, none⟩ a2).setCell ⟨p, 3, none⟩ a3).setCell ⟨p, 4, none⟩ a4).setCell ⟨p, 5, none⟩ a5).setCell ⟨p, 6, none⟩ a6) p T #[a0, a1, a2, a3, a4, a5, a6] := by
  have q0 : Row _ p T #[a0, z1, z2, z3, z4, z5, z6] := h.put 0 a0
  have q1 : Row _ p T #[a0, a1, z2, z3, z4, z5, z6] := q0.put 1 a1
  have q2 : Row _ p T #[a0, a1, a2, z3, z4, z5, z6] := q1.put 2 a2
  have q3 : Row _ p T #[a0, a1, a2, a3, z4, z5, z6] := q2.put 3 a3
  have q4 : Row _ p T #[a0, a1, a2, a3, a4, z5, z6] := q3.put 4 a4
  have q5 : Row _ p T #[a0, a1, a2, a3, a4, a5, z6] := q4.put 5 a5
  exact q5.put 6 a6

theorem blw7 {B p : Nat} {w W : World} (hp : B ≤ p) (h : Below B w W) (a0 a1 a2 a3 a4 a5 a6 : Value) :
    Below B w (((((((W.setCell ⟨p, 0, none⟩ a0).setCell ⟨p, 1, none⟩ a1).setCell ⟨p, 2, none⟩ a2).setCell ⟨p, 3, none⟩ a3).setCell ⟨p, 4, none⟩ a4).setCell ⟨p, 5, none⟩ a5).setCell ⟨p, 6, none⟩ a6) :=
  ((((((h.setCell (p := ⟨p, 0, none⟩) hp a0).setCell (p := ⟨p, 1, none⟩) hp a1).setCell (p := ⟨p, 2, none⟩) hp a2).setCell (p := ⟨p, 3, none⟩) hp a3).setCell (p := ⟨p, 4, none⟩) hp a4).setCell (p := ⟨p, 5, none⟩) hp a5).setCell (p := ⟨p, 6, none⟩) hp a6

/-- The certificate in its block, the result's block, the report under way. -/
structure CR (w : World) (A1 : Option Addr) (k1 : Nat) (A2 : Option Addr) (k2 : Nat) (A3 : Option Addr) (k3 : Nat) (c : Ct) (r : Rp) (W : World) : Prop where
  blw : Below w.heap.size w W
  row : Row W w.heap.size 33 #[.int .i64 c.sa, .int .i64 c.sr, .slice A1 c.bs.length k1, .int .i64 c.ta, .int .i64 c.tr, .int .i64 c.ts, .slice A2 c.ms.length k2, .slice A3 c.inv.length k3]
  see : CeAt W w.heap.size A1 k1 A2 k2 A3 k3 c
  z : Row W (w.heap.size + 1) 39 #[.int .i64 0, .int .i64 0, .int .i64 0, .int .i64 0, .int .i64 0, .int .i64 0, .int .i64 0]
  rr : Row W (w.heap.size + 1 + 1) 39 #[.int .i64 r.err, .int .i64 (r.blk : Int), .int .i64 (r.at_ : Int), .int .i64 (r.blocks : Int), .int .i64 (r.edges : Int), .int .i64 (r.steps : Int), .int .i64 (r.largest : Int)]

section
variable {w W W' : World} {A1 : Option Addr} {k1 : Nat} {A2 : Option Addr} {k2 : Nat} {A3 : Option Addr} {k3 : Nat} {c : Ct} {r r' : Rp} {p : Nat}

theorem CR.next (h : CR w A1 k1 A2 k2 A3 k3 c r W) (hb : Below W.heap.size W W') : CR w A1 k1 A2 k2 A3 k3 c r W' :=
  ⟨h.blw.trans (hb.mono h.blw.size), h.row.below hb h.row.lt, h.see.below (hb.mono h.blw.size), h.z.below hb h.z.lt, h.rr.below hb h.rr.lt⟩

theorem CR.drewN (h : CR w A1 k1 A2 k2 A3 k3 c r W) (n : Nat) : CR w A1 k1 A2 k2 A3 k3 c r (W.drewN n) := h.next (Grew.drewN (Grew.refl W) n).below

theorem CR.drew (h : CR w A1 k1 A2 k2 A3 k3 c r W) : CR w A1 k1 A2 k2 A3 k3 c r W.drew := h.drewN 1

theorem CR.alloc (h : CR w A1 k1 A2 k2 A3 k3 c r W) (o : Obj) : CR w A1 k1 A2 k2 A3 k3 c r (W.alloc o) := h.next ((Below.refl _ _).alloc (Nat.le_refl _) o)

theorem CR.mods (h : CR w A1 k1 A2 k2 A3 k3 c r W) (hm : Mods (Is p) W W') (hp : w.heap.size + 1 + 1 < p) : CR w A1 k1 A2 k2 A3 k3 c r W' := by
  have hb : Below w.heap.size W W' := hm.below h.blw.size fun k hk => by have : k = p := hk; omega
  exact ⟨h.blw.trans hb, h.row.mods hm (fun e => by have : w.heap.size = p := e; omega), h.see.below hb, h.z.mods hm (fun e => by have : w.heap.size + 1 = p := e; omega), h.rr.mods hm (fun e => by have : w.heap.size + 1 + 1 = p := e; omega)⟩

/-- A field of the report is stored. -/
theorem CR.put (h : CR w A1 k1 A2 k2 A3 k3 c r W) (r' : Rp) (k : Nat) (u : Value) (e : (#[.int .i64 r.err, .int .i64 (r.blk : Int), .int .i64 (r.at_ : Int), .int .i64 (r.blocks : Int), .int .i64 (r.edges : Int), .int .i64 (r.steps : Int), .int .i64 (r.largest : Int)] : Array Value).setIfInBounds k u = #[.int .i64 r'.err, .int .i64 (r'.blk : Int), .int .i64 (r'.at_ : Int), .int .i64 (r'.blocks : Int), .int .i64 (r'.edges : Int), .int .i64 (r'.steps : Int), .int .i64 (r'.largest : Int)]) : CR w A1 k1 A2 k2 A3 k3 c r' (W.setCell ⟨w.heap.size + 1 + 1, k, none⟩ u) := by
  have hp := h.rr.put k u
  rw [e] at hp
  have hb : Below (w.heap.size + 1 + 1) W (W.setCell ⟨w.heap.size + 1 + 1, k, none⟩ u) := (Below.refl _ W).setCell (p := ⟨w.heap.size + 1 + 1, k, none⟩) (Nat.le_refl _) u
  exact ⟨h.blw.trans (hb.mono (by omega)), h.row.below hb (by omega), h.see.below (hb.mono (by omega)), h.z.below hb (by omega), hp⟩

end

/-- Beside it: the result of a block's check in a block of its own, its list. -/
structure XB (w : World) (A1 : Option Addr) (k1 : Nat) (A2 : Option Addr) (k2 : Nat) (A3 : Option Addr) (k3 : Nat) (c : Ct) (r : Rp) (xb : Nat) (T : TypeId) (A : Option Addr) (cc : Nat) (x : Rs) (W : World) : Prop where
  cr : CR w A1 k1 A2 k2 A3 k3 c r W
  row : Row W xb T #[.slice A x.out.length cc, .int .i64 x.err, .int .i64 (x.at_ : Int), .int .i64 (x.steps : Int), .int .i64 (x.largest : Int)]
  lt : w.heap.size + 1 + 1 < xb
  pl : PL w (.slice A x.out.length cc) x.out W

section
variable {w W W' : World} {A1 : Option Addr} {k1 : Nat} {A2 : Option Addr} {k2 : Nat} {A3 : Option Addr} {k3 : Nat} {c : Ct} {r r' : Rp} {xb : Nat} {T : TypeId} {A : Option Addr} {cc : Nat} {x : Rs}

theorem XB.next (h : XB w A1 k1 A2 k2 A3 k3 c r xb T A cc x W) (hb : Below W.heap.size W W') : XB w A1 k1 A2 k2 A3 k3 c r xb T A cc x W' := ⟨h.cr.next hb, h.row.below hb h.row.lt, h.lt, h.pl.next hb⟩

theorem XB.drewN (h : XB w A1 k1 A2 k2 A3 k3 c r xb T A cc x W) (n : Nat) : XB w A1 k1 A2 k2 A3 k3 c r xb T A cc x (W.drewN n) := h.next (Grew.drewN (Grew.refl W) n).below

theorem XB.drew (h : XB w A1 k1 A2 k2 A3 k3 c r xb T A cc x W) : XB w A1 k1 A2 k2 A3 k3 c r xb T A cc x W.drew := h.drewN 1

theorem XB.alloc (h : XB w A1 k1 A2 k2 A3 k3 c r xb T A cc x W) (o : Obj) : XB w A1 k1 A2 k2 A3 k3 c r xb T A cc x (W.alloc o) := h.next ((Below.refl _ _).alloc (Nat.le_refl _) o)

theorem PL.put_at {v : Value} {l : List Pr} {p : Nat} {cs : Array Value} (h : PL w v l W) (hr : Row W p T cs) (hT : 89 ≠ T) (hp : w.heap.size ≤ p) (hm : Mods (Is p) W W') : PL w v l W' :=
  ⟨hm.ownS h.own fun k hk e => own_row_neS h.own hr hT k hk e, h.blw.trans (hm.below h.blw.size fun k hk => by have : k = p := hk; omega)⟩

theorem XB.put (h : XB w A1 k1 A2 k2 A3 k3 c r xb T A cc x W) (r' : Rp) (k : Nat) (u : Value) (e : (#[.int .i64 r.err, .int .i64 (r.blk : Int), .int .i64 (r.at_ : Int), .int .i64 (r.blocks : Int), .int .i64 (r.edges : Int), .int .i64 (r.steps : Int), .int .i64 (r.largest : Int)] : Array Value).setIfInBounds k u = #[.int .i64 r'.err, .int .i64 (r'.blk : Int), .int .i64 (r'.at_ : Int), .int .i64 (r'.blocks : Int), .int .i64 (r'.edges : Int), .int .i64 (r'.steps : Int), .int .i64 (r'.largest : Int)]) : XB w A1 k1 A2 k2 A3 k3 c r' xb T A cc x (W.setCell ⟨w.heap.size + 1 + 1, k, none⟩ u) :=
  ⟨h.cr.put r' k u e, h.row.mods ((Mods.refl (Is (w.heap.size + 1 + 1)) W).put k u) (fun e => by have : xb = w.heap.size + 1 + 1 := e; have := h.lt; omega), h.lt, h.pl.put_at h.cr.rr (by decide) (by omega) ((Mods.refl (Is (w.heap.size + 1 + 1)) W).put k u)⟩

/-- The result stored into a block of its own. -/
theorem XB.of {W1 : World} {z0 z1 z2 z3 z4 : Value} (h : CR w A1 k1 A2 k2 A3 k3 c r W1) (hp : PL w (.slice A x.out.length cc) x.out W1) (hr : Row W1 xb T #[z0, z1, z2, z3, z4]) (hlt : w.heap.size + 1 + 1 < xb) (hT : 89 ≠ T) :
    XB w A1 k1 A2 k2 A3 k3 c r xb T A cc x (((((W1.setCell ⟨xb, 0, none⟩ (.slice A x.out.length cc)).setCell ⟨xb, 1, none⟩ (.int .i64 x.err)).setCell ⟨xb, 2, none⟩ (.int .i64 (x.at_ : Int))).setCell ⟨xb, 3, none⟩ (.int .i64 (x.steps : Int))).setCell ⟨xb, 4, none⟩ (.int .i64 (x.largest : Int))) :=
  ⟨h.mods (mods5 W1 xb _ _ _ _ _) hlt, hr.put5 _ _ _ _ _, hlt, hp.put_at hr hT (by omega) (mods5 W1 xb _ _ _ _ _)⟩

end

/-- The result of a check, and where it leaves memory. -/
def RpP (w : World) (r : Rp) (e : Ending) (w' : World) : Prop := e = .returned (.agg #[.int .i64 r.err, .int .i64 (r.blk : Int), .int .i64 (r.at_ : Int), .int .i64 (r.blocks : Int), .int .i64 (r.edges : Int), .int .i64 (r.steps : Int), .int .i64 (r.largest : Int)]) ∧ Below w.heap.size w w'

end Go.Proofs.YtcoehkphdfejjaaGreat
