/-
  The reference's Of of layer 21 (begun: the header, the lengths, the error of Split).
-/
import Derived.Test.YtkapmfopfddmbaaDcFn
import Derived.Test.YtkapmfopfddmbaaDcLen
import Derived.Test.YtkapmfopfddmbaaPk20
import Derived.Test.YtkapmfopfddmbaaFcFunc
import Derived.Test.YtkapmfopfddmbaaFcMfn
import Derived.Test.YtkapmfopfddmbaaPk22
import Derived.Test.YtkapmfopfddmbaaPk28
import Derived.Test.YtkapmfopfddmbaaDcPa
import Derived.Deep.Cut
import Derived.Deep.CutRange
namespace Go.Proofs.Ytkapmfopfddmbaa
open Go.RowKit
set_option linter.unusedVariables false
set_option linter.unusedSimpArgs false

/-- What the reference's Of leaves. -/
def ROfP (w : World) (l : List Nat) (e : Ending) (w' : World) : Prop := e = .returned (.agg #[.int .i64 (costE l).b, .int .i64 (costE l).i, .int .i64 (costE l).p, .int .i64 ((costE l).y : Nat)]) ∧ Below w.heap.size w w'

theorem ROfP.of {w w' : World} {l : List Nat} {b i p : Int} {y : Nat} (h : costE l = ⟨b, i, p, y⟩) (hb : Below w.heap.size w w') : ROfP w l (.returned (.agg #[.int .i64 b, .int .i64 i, .int .i64 p, .int .i64 (y : Int)])) w' := ⟨by rw [h], hb⟩

/-- The two costs' blocks: the result's and the variable's. -/
structure RX21 (w : World) (A : Option Addr) (l : List Nat) (b i p y : Int) (W : World) : Prop where
  blw : Below w.heap.size w W
  see : Sees W w.heap.size A (bts l)
  z : Row W w.heap.size 27 #[.int .i64 0, .int .i64 0, .int .i64 0, .int .i64 0]
  c : Row W (w.heap.size + 1) 27 #[.int .i64 b, .int .i64 i, .int .i64 p, .int .i64 y]

section
variable {w W W' : World} {A : Option Addr} {l : List Nat} {b i p y : Int}

theorem RX21.start (hs : Sees w w.heap.size A (bts l)) : RX21 w A l 0 0 0 0 ((w.alloc (.cells #[.int .i64 0, .int .i64 0, .int .i64 0, .int .i64 0] 27)).alloc (.cells #[.int .i64 0, .int .i64 0, .int .i64 0, .int .i64 0] 27)) := by
  obtain ⟨h1, h2, h3⟩ := two_rows18 w 27 #[.int .i64 0, .int .i64 0, .int .i64 0, .int .i64 0] #[.int .i64 0, .int .i64 0, .int .i64 0, .int .i64 0]
  exact ⟨h1, hs.below h1, h2, h3⟩

theorem RX21.next (h : RX21 w A l b i p y W) (hb : Below W.heap.size W W') : RX21 w A l b i p y W' := ⟨h.blw.trans (hb.mono h.blw.size), h.see.below (hb.mono h.blw.size), h.z.below hb h.z.lt, h.c.below hb h.c.lt⟩

theorem RX21.cells (h : RX21 w A l b i p y W) : W.cell? ⟨w.heap.size + 1, 0, none⟩ = some (.int .i64 b) ∧ W.cell? ⟨w.heap.size + 1, 1, none⟩ = some (.int .i64 i) ∧ W.cell? ⟨w.heap.size + 1, 2, none⟩ = some (.int .i64 p) ∧ W.cell? ⟨w.heap.size + 1, 3, none⟩ = some (.int .i64 y) ∧
    W.frozen? ⟨w.heap.size, 0, none⟩ = false ∧ W.frozen? ⟨w.heap.size, 1, none⟩ = false ∧ W.frozen? ⟨w.heap.size, 2, none⟩ = false ∧ W.frozen? ⟨w.heap.size, 3, none⟩ = false ∧
    W.cell? ⟨w.heap.size, 0, none⟩ = some (.int .i64 0) ∧ W.cell? ⟨w.heap.size, 1, none⟩ = some (.int .i64 0) ∧ W.cell? ⟨w.heap.size, 2, none⟩ = some (.int .i64 0) ∧ W.cell? ⟨w.heap.size, 3, none⟩ = some (.int .i64 0) ∧
    W.frozen? ⟨w.heap.size + 1, 0, none⟩ = false ∧ W.frozen? ⟨w.heap.size + 1, 1, none⟩ = false ∧ W.frozen? ⟨w.heap.size + 1, 2, none⟩ = false ∧ W.frozen? ⟨w.heap.size + 1, 3, none⟩ = false :=
  ⟨h.c.cell 0, h.c.cell 1, h.c.cell 2, h.c.cell 3, h.z.frozen 0, h.z.frozen 1, h.z.frozen 2, h.z.frozen 3, h.z.cell 0, h.z.cell 1, h.z.cell 2, h.z.cell 3, h.c.frozen 0, h.c.frozen 1, h.c.frozen 2, h.c.frozen 3⟩

theorem RX21.mods {q : Nat} {cs : Array Value} (h : RX21 w A l b i p y W) (hm : Mods (Is (w.heap.size + 1)) W W') (hr : Row W' (w.heap.size + 1) 27 cs) {b' i' p' y' : Int} (hcs : cs = #[.int .i64 b', .int .i64 i', .int .i64 p', .int .i64 y']) : RX21 w A l b' i' p' y' W' := by
  have hb : Below w.heap.size W W' := hm.below h.blw.size fun k hk => by unfold Is at hk; omega
  subst hcs
  exact ⟨h.blw.trans hb, h.see.below hb, h.z.mods hm (by unfold Is; omega), hr⟩

theorem RX21.sety (h : RX21 w A l b i p y W) (y' : Int) : RX21 w A l b i p y' (W.setCell ⟨w.heap.size + 1, 3, none⟩ (.int .i64 y')) := h.mods (q := 0) ((Mods.refl _ _).put 3 _) (h.c.put 3 _) rfl

theorem RX21.fin (h : RX21 w A l b i p y W) (u0 u1 u2 u3 : Value) : Row ((((W.setCell ⟨w.heap.size, 0, none⟩ u0).setCell ⟨w.heap.size, 1, none⟩ u1).setCell ⟨w.heap.size, 2, none⟩ u2).setCell ⟨w.heap.size, 3, none⟩ u3) w.heap.size 27 #[u0, u1, u2, u3] ∧ Below w.heap.size w ((((W.setCell ⟨w.heap.size, 0, none⟩ u0).setCell ⟨w.heap.size, 1, none⟩ u1).setCell ⟨w.heap.size, 2, none⟩ u2).setCell ⟨w.heap.size, 3, none⟩ u3) :=
  ⟨(((h.z.put 0 u0).put 1 u1).put 2 u2).put 3 u3, h.blw.trans (((((Below.refl _ W).setCell (p := ⟨w.heap.size, 0, none⟩) (Nat.le_refl _) u0).setCell (p := ⟨w.heap.size, 1, none⟩) (Nat.le_refl _) u1).setCell (p := ⟨w.heap.size, 2, none⟩) (Nat.le_refl _) u2).setCell (p := ⟨w.heap.size, 3, none⟩) (Nat.le_refl _) u3)⟩

theorem RX21.set0 (h : RX21 w A l b i p y W) (b' : Int) : RX21 w A l b' i p y (W.setCell ⟨w.heap.size + 1, 0, none⟩ (.int .i64 b')) := h.mods (q := 0) ((Mods.refl _ _).put 0 _) (h.c.put 0 _) rfl

theorem RX21.set1 (h : RX21 w A l b i p y W) (i' : Int) : RX21 w A l b i' p y (W.setCell ⟨w.heap.size + 1, 1, none⟩ (.int .i64 i')) := h.mods (q := 0) ((Mods.refl _ _).put 1 _) (h.c.put 1 _) rfl

theorem RX21.set2 (h : RX21 w A l b i p y W) (p' : Int) : RX21 w A l b i p' y (W.setCell ⟨w.heap.size + 1, 2, none⟩ (.int .i64 p')) := h.mods (q := 0) ((Mods.refl _ _).put 2 _) (h.c.put 2 _) rfl

theorem RX21.far {q : Nat} (h : RX21 w A l b i p y W) (hq : w.heap.size + 1 < q) (hm : Mods (Is q) W W') : RX21 w A l b i p y W' := by
  have hb : Below w.heap.size W W' := hm.below h.blw.size fun k hk => by unfold Is at hk; omega
  exact ⟨h.blw.trans hb, h.see.below hb, h.z.mods hm (by unfold Is; omega), h.c.mods hm (by unfold Is; omega)⟩

end

/-- A cell that holds no int lies in no block of ints. -/
theorem ne_ints21 {V : World} {q : Nat} {T : TypeId} {b i p y : Int} (hr : Row V q T #[.int .i64 b, .int .i64 i, .int .i64 p, .int .i64 y]) {k o : Nat} {u : Value} (hc : V.cell? ⟨k, o, none⟩ = some u) (hu : ∀ x, u ≠ .int .i64 x) : k ≠ q := by
  rintro rfl
  have h := hr.cell o
  rw [hc] at h
  match o, h with
  | 0, h => exact hu _ (Option.some.inj h)
  | 1, h => exact hu _ (Option.some.inj h)
  | 2, h => exact hu _ (Option.some.inj h)
  | 3, h => exact hu _ (Option.some.inj h)
  | n + 4, h => simp at h

theorem ip_ints21 {V V' : World} {q B : Nat} {T : TypeId} {b i p y : Int} {A : Option Addr} {c : Nat} {s : Ip} (hr : Row V q T #[.int .i64 b, .int .i64 i, .int .i64 p, .int .i64 y]) (h : IpV V B A c s) (hB : B ≤ V.heap.size) (hm : Mods (Is q) V V') : IpV V' B A c s := by
  refine ⟨fun hn => ?_, h.le, h.cm, h.byt, h.sm⟩
  obtain ⟨g, o, e, hg, hc⟩ := h.see hn
  refine ⟨g, o, e, hg, fun j u hu => ?_⟩
  have hcj := hc j u hu
  refine (hm.cell (p := ⟨g, o + j, none⟩) (by show g < _; omega) ?_).trans hcj
  refine ne_ints21 hr hcj ?_
  rintro x rfl
  unfold bts at hu
  rw [List.getElem?_map] at hu
  cases h9 : s.rest[j]? with
  | none => rw [h9] at hu; cases hu
  | some z => rw [h9] at hu; injection hu with hu; injection hu with hu; cases hu

/-- The parts of the input. -/
structure PT21 (B bv ov : Nat) (A0 A1 A3 : Option Addr) (k0 k1 k3 : Nat) (p0 p1 p2 : List Nat) (W : World) : Prop where
  lt : bv < B
  le : B ≤ W.heap.size
  g0 : W.cell? ⟨bv, ov, none⟩ = some (.slice A0 p0.length k0)
  g1 : W.cell? ⟨bv, ov + 1, none⟩ = some (.slice A1 p1.length k1)
  g2 : W.cell? ⟨bv, ov + 2, none⟩ = some (.slice A3 p2.length k3)
  i0 : IpV W B A0 k0 ⟨p0, 0⟩
  i1 : IpV W B A1 k1 ⟨p1, 0⟩
  i2 : IpV W B A3 k3 ⟨p2, 0⟩

section
variable {B bv ov q k0 k1 k3 : Nat} {A0 A1 A3 : Option Addr} {p0 p1 p2 : List Nat} {W W' : World}

theorem PT21.below (h : PT21 B bv ov A0 A1 A3 k0 k1 k3 p0 p1 p2 W) (hb : Below B W W') : PT21 B bv ov A0 A1 A3 k0 k1 k3 p0 p1 p2 W' :=
  ⟨h.lt, Nat.le_trans h.le hb.size, (hb.cell (p := ⟨bv, ov, none⟩) h.lt).trans h.g0, (hb.cell (p := ⟨bv, ov + 1, none⟩) h.lt).trans h.g1, (hb.cell (p := ⟨bv, ov + 2, none⟩) h.lt).trans h.g2, h.i0.below hb, h.i1.below hb, h.i2.below hb⟩

theorem PT21.ints {T : TypeId} {b i p y : Int} (h : PT21 B bv ov A0 A1 A3 k0 k1 k3 p0 p1 p2 W) (hr : Row W q T #[.int .i64 b, .int .i64 i, .int .i64 p, .int .i64 y]) (hm : Mods (Is q) W W') : PT21 B bv ov A0 A1 A3 k0 k1 k3 p0 p1 p2 W' := by
  have hl : bv < W.heap.size := by have := h.lt; have := h.le; omega
  have hn : ¬ Is q bv := ne_ints21 hr h.g0 (by rintro x h9; cases h9)
  exact ⟨h.lt, Nat.le_trans h.le hm.size, (hm.cell (p := ⟨bv, ov, none⟩) hl hn).trans h.g0, (hm.cell (p := ⟨bv, ov + 1, none⟩) hl hn).trans h.g1, (hm.cell (p := ⟨bv, ov + 2, none⟩) hl hn).trans h.g2, ip_ints21 hr h.i0 h.le hm, ip_ints21 hr h.i1 h.le hm, ip_ints21 hr h.i2 h.le hm⟩

end

/-- The costs, the parts, an input in its box. -/
structure OF21 (w : World) (A : Option Addr) (l : List Nat) (b i p y : Int) (B bv ov : Nat) (A0 A1 A3 : Option Addr) (k0 k1 k3 : Nat) (p0 p1 p2 : List Nat) (q : Nat) (Ai : Option Addr) (c : Nat) (t : Ip) (W : World) : Prop where
  x : RX21 w A l b i p y W
  lo : w.heap.size + 1 < B
  pt : PT21 B bv ov A0 A1 A3 k0 k1 k3 p0 p1 p2 W
  hq : B ≤ q
  ip : IpV W B Ai c t
  bx : Row W q 55 #[.slice Ai t.rest.length c, .int .i64 t.err]

section
variable {w W W' : World} {A Ai Ai' A0 A1 A3 : Option Addr} {l p0 p1 p2 : List Nat} {b i p y : Int} {B bv ov q c c' k0 k1 k3 : Nat} {t t' : Ip}

theorem OF21.next (h : OF21 w A l b i p y B bv ov A0 A1 A3 k0 k1 k3 p0 p1 p2 q Ai c t W) (hb : Below W.heap.size W W') : OF21 w A l b i p y B bv ov A0 A1 A3 k0 k1 k3 p0 p1 p2 q Ai c t W' :=
  ⟨h.x.next hb, h.lo, h.pt.below (hb.mono h.pt.le), h.hq, h.ip.below (hb.mono h.pt.le), h.bx.below hb h.bx.lt⟩

theorem OF21.inpt (h : OF21 w A l b i p y B bv ov A0 A1 A3 k0 k1 k3 p0 p1 p2 q Ai c t W) (hI : IpV W' B Ai' c' t') (hb : Below W.heap.size W W') : OF21 w A l b i p y B bv ov A0 A1 A3 k0 k1 k3 p0 p1 p2 q Ai' c' t' ((W'.setCell ⟨q, 0, none⟩ (.slice Ai' t'.rest.length c')).setCell ⟨q, 1, none⟩ (.int .i64 t'.err)) := by
  have h' := h.next hb
  have hlo := h.lo
  have hq := h.hq
  have hm : Mods (Is q) W' ((W'.setCell ⟨q, 0, none⟩ (.slice Ai' t'.rest.length c')).setCell ⟨q, 1, none⟩ (.int .i64 t'.err)) := ((Mods.refl _ _).put 0 _).put 1 _
  have hbm : Below B W' _ := hm.below h'.pt.le fun k hk => by unfold Is at hk; omega
  have r0 : Row _ q 55 #[.slice Ai' t'.rest.length c', .int .i64 t.err] := h'.bx.put 0 _
  exact ⟨h'.x.far (by omega) hm, hlo, h'.pt.below hbm, hq, hI.below hbm, r0.put 1 _⟩

theorem OF21.set (h : OF21 w A l b i p y B bv ov A0 A1 A3 k0 k1 k3 p0 p1 p2 q Ai c t W) {b' i' p' : Int} (hx : RX21 w A l b' i' p' y W') (hm : Mods (Is (w.heap.size + 1)) W W') : OF21 w A l b' i' p' y B bv ov A0 A1 A3 k0 k1 k3 p0 p1 p2 q Ai c t W' := by
  have hlo := h.lo
  have hq := h.hq
  exact ⟨hx, hlo, h.pt.ints h.x.c hm, hq, ip_ints21 h.x.c h.ip h.pt.le hm, h.bx.mods hm (by unfold Is; omega)⟩

end

/-- With the source function's box. -/
structure OG21 (w : World) (A : Option Addr) (l : List Nat) (b i p y : Int) (B bv ov : Nat) (A0 A1 A3 : Option Addr) (k0 k1 k3 : Nat) (p0 p1 p2 : List Nat) (q : Nat) (Ai : Option Addr) (c : Nat) (t : Ip) (b7 : Nat) (cs : Array Value) (W : World) : Prop where
  o : OF21 w A l b i p y B bv ov A0 A1 A3 k0 k1 k3 p0 p1 p2 q Ai c t W
  hq : q < b7
  r : Row W b7 63 cs

section
variable {w W W' : World} {A Ai Ai' A0 A1 A3 : Option Addr} {l p0 p1 p2 : List Nat} {b i p y : Int} {B bv ov q c c' k0 k1 k3 b7 : Nat} {t t' : Ip} {cs : Array Value}

theorem OG21.next (h : OG21 w A l b i p y B bv ov A0 A1 A3 k0 k1 k3 p0 p1 p2 q Ai c t b7 cs W) (hb : Below W.heap.size W W') : OG21 w A l b i p y B bv ov A0 A1 A3 k0 k1 k3 p0 p1 p2 q Ai c t b7 cs W' := ⟨h.o.next hb, h.hq, h.r.below hb h.r.lt⟩

theorem OG21.inpt (h : OG21 w A l b i p y B bv ov A0 A1 A3 k0 k1 k3 p0 p1 p2 q Ai c t b7 cs W) (hI : IpV W' B Ai' c' t') (hb : Below W.heap.size W W') : OG21 w A l b i p y B bv ov A0 A1 A3 k0 k1 k3 p0 p1 p2 q Ai' c' t' b7 cs ((W'.setCell ⟨q, 0, none⟩ (.slice Ai' t'.rest.length c')).setCell ⟨q, 1, none⟩ (.int .i64 t'.err)) := by
  have hq := h.hq
  have hm : Mods (Is q) W' ((W'.setCell ⟨q, 0, none⟩ (.slice Ai' t'.rest.length c')).setCell ⟨q, 1, none⟩ (.int .i64 t'.err)) := ((Mods.refl _ _).put 0 _).put 1 _
  exact ⟨h.o.inpt hI hb, hq, (h.r.below hb h.r.lt).mods hm (by unfold Is; omega)⟩

theorem OG21.set (h : OG21 w A l b i p y B bv ov A0 A1 A3 k0 k1 k3 p0 p1 p2 q Ai c t b7 cs W) {b' i' p' : Int} (hx : RX21 w A l b' i' p' y W') (hm : Mods (Is (w.heap.size + 1)) W W') : OG21 w A l b' i' p' y B bv ov A0 A1 A3 k0 k1 k3 p0 p1 p2 q Ai c t b7 cs W' := by
  have h1 := h.hq
  have h2 := h.o.lo
  have h3 := h.o.hq
  exact ⟨h.o.set hx hm, h1, h.r.mods hm (by unfold Is; omega)⟩

end

/-- Behind the functions: the costs, both functions' boxes, what is left of the invariants. -/
structure OL21 (w : World) (A : Option Addr) (l : List Nat) (b i p y : Int) (B b7 b8 q : Nat) (cs7 cs8 : Array Value) (Ai : Option Addr) (c : Nat) (t : Ip) (W : World) : Prop where
  x : RX21 w A l b i p y W
  lo : w.heap.size + 1 < B
  le : B ≤ W.heap.size
  ip : IpV W B Ai c t
  r7 : Row W b7 63 cs7
  r8 : Row W b8 68 cs8
  bx : Row W q 55 #[.slice Ai t.rest.length c, .int .i64 t.err]
  h7 : B ≤ b7
  h8 : b7 < b8
  hq : b8 < q

section
variable {w W W' : World} {A Ai Ai' : Option Addr} {l : List Nat} {b i p y : Int} {B b7 b8 q c c' : Nat} {t t' : Ip} {cs7 cs8 : Array Value}

theorem OL21.next (h : OL21 w A l b i p y B b7 b8 q cs7 cs8 Ai c t W) (hb : Below W.heap.size W W') : OL21 w A l b i p y B b7 b8 q cs7 cs8 Ai c t W' :=
  ⟨h.x.next hb, h.lo, Nat.le_trans h.le hb.size, h.ip.below (hb.mono h.le), h.r7.below hb h.r7.lt, h.r8.below hb h.r8.lt, h.bx.below hb h.bx.lt, h.h7, h.h8, h.hq⟩

theorem OL21.inpt (h : OL21 w A l b i p y B b7 b8 q cs7 cs8 Ai c t W) (hI : IpV W' B Ai' c' t') (hb : Below W.heap.size W W') : OL21 w A l b i p y B b7 b8 q cs7 cs8 Ai' c' t' ((W'.setCell ⟨q, 0, none⟩ (.slice Ai' t'.rest.length c')).setCell ⟨q, 1, none⟩ (.int .i64 t'.err)) := by
  have h' := h.next hb
  obtain ⟨_, hlo, _, _, _, _, _, h7, h8, hq⟩ := h
  have hm : Mods (Is q) W' ((W'.setCell ⟨q, 0, none⟩ (.slice Ai' t'.rest.length c')).setCell ⟨q, 1, none⟩ (.int .i64 t'.err)) := ((Mods.refl _ _).put 0 _).put 1 _
  have hbm : Below B W' _ := hm.below h'.le fun k hk => by unfold Is at hk; omega
  have r0 : Row _ q 55 #[.slice Ai' t'.rest.length c', .int .i64 t.err] := h'.bx.put 0 _
  exact ⟨h'.x.far (by omega) hm, hlo, Nat.le_trans h'.le hm.size, hI.below hbm, h'.r7.mods hm (by unfold Is; omega), h'.r8.mods hm (by unfold Is; omega), r0.put 1 _, h7, h8, hq⟩

theorem OL21.setp (h : OL21 w A l b i p y B b7 b8 q cs7 cs8 Ai c t W) (p' : Int) : OL21 w A l b i p' y B b7 b8 q cs7 cs8 Ai c t (W.setCell ⟨w.heap.size + 1, 2, none⟩ (.int .i64 p')) := by
  have hx := h.x.set2 p'
  have hc := h.x.c
  obtain ⟨_, hlo, hle, hip, r7, r8, hbx, h7, h8, hq⟩ := h
  have hm : Mods (Is (w.heap.size + 1)) W (W.setCell ⟨w.heap.size + 1, 2, none⟩ (.int .i64 p')) := (Mods.refl _ _).put 2 _
  exact ⟨hx, hlo, Nat.le_trans hle hm.size, ip_ints21 hc hip hle hm, r7.mods hm (by unfold Is; omega), r8.mods hm (by unfold Is; omega), hbx.mods hm (by unfold Is; omega), h7, h8, hq⟩

end

theorem getE19_one21 {vr r n tot : Int} {s : Ip} (h : s.err = 0) (ht : ¬ 1048576 < tot + (cntE 2 s).1) (hn : ¬ 1048576 < (cntE 2 s).1) : (getE19 vr r n 1 s).2 = (ivE vr r n tot s).2 := by
  have e1 : (ivsE vr r n 1 0 s).2 = (ivE vr r n 0 s).2 := by
    have : ivsE vr r n 1 0 s = ((ivE vr r n 0 s).1 :: (ivsE vr r n 0 (0 + (icE 0 s).1) (ivE vr r n 0 s).2).1, (ivsE vr r n 0 (0 + (icE 0 s).1) (ivE vr r n 0 s).2).2) := if_neg fun hh => hh h
    rw [this]
    rfl
  have e2 : icE 0 s = icE tot s := by
    unfold icE
    rw [if_neg ht, if_neg (by omega)]
  have e3 : ivE vr r n 0 s = ivE vr r n tot s := by unfold ivE; rw [e2]
  unfold getE19
  split
  · exact e1.trans (congrArg Prod.snd e3)
  · exact e1.trans (congrArg Prod.snd e3)

theorem iv_over21 {vr r n tot : Int} {s : Ip} (h : 1048576 < tot + (cntE 2 s).1) : (ivE vr r n tot s).2.err ≠ 0 := by
  have h1 : (icE tot s).2.err ≠ 0 := by
    unfold icE
    rw [if_pos h]
    exact failE_err (by decide)
  unfold ivE
  rw [prsE_err h1]
  exact h1

theorem iv_bad21 {vr r n tot : Int} {s : Ip} (h : (cntE 2 s).2.err ≠ 0) : (ivE vr r n tot s).2.err ≠ 0 := by
  have h1 : (icE tot s).2.err ≠ 0 := by
    unfold icE
    dsimp only
    split
    · exact failE_err (by decide)
    · exact h
  unfold ivE
  rw [prsE_err h1]
  exact h1

set_option maxRecDepth 100000 in
set_option maxHeartbeats 8000000 in
theorem rof21_any (A : Option Addr) (l : List Nat) (k : Nat) (w : World) (hs : Sees w w.heap.size A (bts l)) (hby : Byt l) (hm : l.length ≤ 90000) (hk : l.length ≤ k) (hkm : k ≤ maxLen) :
    Calls Try.prog 9 #[.slice A l.length k] w (ROfP w l) := by
  have H0 := Lib.hid (RX21.start hs)
  have HBY := Lib.hid hby
  have HKM := Lib.hid hkm
  clear hs hby
  unfold maxLen at hkm
  obtain ⟨n, hn⟩ : ∃ n, l.length = n := ⟨_, rfl⟩
  rw [hn] at hm hk ⊢
  have HN := Lib.hid hn
  clear hn
  go_enter Try.func9, Try.ntmps9
  go_upto_region 2 with fail
  generalize ((w.alloc (.cells #[.int .i64 0, .int .i64 0, .int .i64 0, .int .i64 0] 27)).alloc (.cells #[.int .i64 0, .int .i64 0, .int .i64 0, .int .i64 0] 27)) = W0 at *
  by_cases hl3 : n < 3
  · have d0 : (n : Int) < 3 := by omega
    obtain ⟨y0, y1, y2, y3, z0, z1, z2, z3, q0, q1, q2, q3, r0, r1, r2, r3⟩ := H0.out.cells
    have HRP := Lib.hid (H0.out.fin (.int .i64 0) (.int .i64 0) (.int .i64 0) (.int .i64 0))
    have HDE : Hid (costE l = ⟨0, 0, 0, 0⟩) := if_pos (.inl (by rw [HN.out]; exact hl3))
    go_wp2
    (try simp only [Exit.inBlock, Exit.then])
    refine bodyPost_ret (v := .agg #[.int .i64 0, .int .i64 0, .int .i64 0, .int .i64 0]) ?_ rfl (ROfP.of HDE.out HRP.out.2)
    exact results_cell_row rfl _ _ w.heap.size 27 #[.int .i64 0, .int .i64 0, .int .i64 0, .int .i64 0] (0, 0) _ rfl HRP.out.1 Try.underlying27 rfl (by kernel_rfl)
  obtain ⟨x0, x1, x2, r, hl⟩ : ∃ x0 x1 x2 r, l = x0 :: x1 :: x2 :: r := by
    have h9 := HN.out
    match l with
    | x :: y :: z :: r => exact ⟨x, y, z, r, rfl⟩
    | [_, _] => simp at h9; omega
    | [_] => simp at h9; omega
    | [] => simp at h9; omega
  have HL := Lib.hid hl
  obtain ⟨b, o, rfl, hbB, hc⟩ := H0.out.see (by rw [hl]; simp [bts])
  have c0 := hc 0 _ (by rw [hl]; rfl)
  have c1 := hc 1 _ (by rw [hl]; rfl)
  have c2 := hc 2 _ (by rw [hl]; rfl)
  have dn : ¬ (n : Int) < 3 := by omega
  have dn1 : (0 : Int) < (n : Int) := by omega
  have dn2 : (1 : Int) < (n : Int) := by omega
  have dn3 : (2 : Int) < (n : Int) := by omega
  simp only [Nat.add_zero] at c0
  have HD4 : Hid (costE l = if x0 ≠ 82 ∨ x1 ≠ 67 ∨ x2 ≠ 1 then ⟨0, 0, 0, 0⟩ else cost0 r) := by
    show (if _ then _ else _) = _
    rw [HL.out]
    simp only [List.length_cons, List.getD_cons_zero, List.getD_cons_succ, List.drop_succ_cons, List.drop_zero]
    by_cases h9 : x0 ≠ 82 ∨ x1 ≠ 67 ∨ x2 ≠ 1
    · rw [if_pos (.inr h9), if_pos h9]
    · rw [if_neg (fun h8 => h8.elim (by omega) h9), if_neg h9]
  clear hl hc
  by_cases hx0 : x0 ≠ 82
  · have d1 : ((x0 : Int) != 82) = true := by simp; omega
    obtain ⟨y0, y1, y2, y3, z0, z1, z2, z3, q0, q1, q2, q3, r0, r1, r2, r3⟩ := H0.out.cells
    have HRP := Lib.hid (H0.out.fin (.int .i64 0) (.int .i64 0) (.int .i64 0) (.int .i64 0))
    have HDE : Hid (costE l = ⟨0, 0, 0, 0⟩) := by show _ = _; rw [HD4.out, if_pos (.inl hx0)]
    clear hx0
    go_wp2
    (try simp only [Exit.inBlock, Exit.then])
    refine bodyPost_ret (v := .agg #[.int .i64 0, .int .i64 0, .int .i64 0, .int .i64 0]) ?_ rfl (ROfP.of HDE.out HRP.out.2)
    exact results_cell_row rfl _ _ w.heap.size 27 #[.int .i64 0, .int .i64 0, .int .i64 0, .int .i64 0] (0, 0) _ rfl HRP.out.1 Try.underlying27 rfl (by kernel_rfl)
  have d1 : ((x0 : Int) != 82) = false := by simp; omega
  by_cases hx1 : x1 ≠ 67
  · have d2 : ((x1 : Int) != 67) = true := by simp; omega
    obtain ⟨y0, y1, y2, y3, z0, z1, z2, z3, q0, q1, q2, q3, r0, r1, r2, r3⟩ := H0.out.cells
    have HRP := Lib.hid (H0.out.fin (.int .i64 0) (.int .i64 0) (.int .i64 0) (.int .i64 0))
    have HDE : Hid (costE l = ⟨0, 0, 0, 0⟩) := by show _ = _; rw [HD4.out, if_pos (.inr (.inl hx1))]
    clear hx1
    go_wp2
    (try simp only [Exit.inBlock, Exit.then])
    refine bodyPost_ret (v := .agg #[.int .i64 0, .int .i64 0, .int .i64 0, .int .i64 0]) ?_ rfl (ROfP.of HDE.out HRP.out.2)
    exact results_cell_row rfl _ _ w.heap.size 27 #[.int .i64 0, .int .i64 0, .int .i64 0, .int .i64 0] (0, 0) _ rfl HRP.out.1 Try.underlying27 rfl (by kernel_rfl)
  have d2 : ((x1 : Int) != 67) = false := by simp; omega
  by_cases hx2 : x2 ≠ 1
  · have d3 : ((x2 : Int) != 1) = true := by simp; omega
    obtain ⟨y0, y1, y2, y3, z0, z1, z2, z3, q0, q1, q2, q3, r0, r1, r2, r3⟩ := H0.out.cells
    have HRP := Lib.hid (H0.out.fin (.int .i64 0) (.int .i64 0) (.int .i64 0) (.int .i64 0))
    have HDE : Hid (costE l = ⟨0, 0, 0, 0⟩) := by show _ = _; rw [HD4.out, if_pos (.inr (.inr hx2))]
    clear hx2
    go_wp2
    (try simp only [Exit.inBlock, Exit.then])
    refine bodyPost_ret (v := .agg #[.int .i64 0, .int .i64 0, .int .i64 0, .int .i64 0]) ?_ rfl (ROfP.of HDE.out HRP.out.2)
    exact results_cell_row rfl _ _ w.heap.size 27 #[.int .i64 0, .int .i64 0, .int .i64 0, .int .i64 0] (0, 0) _ rfl HRP.out.1 Try.underlying27 rfl (by kernel_rfl)
  have d3 : ((x2 : Int) != 1) = false := by simp; omega
  have HD0 : Hid (costE l = cost0 r) := by show _ = _; rw [HD4.out, if_neg (by omega)]
  have hnr : n = 3 + r.length := by rw [← HN.out, HL.out]; simp; omega
  obtain ⟨kk, rfl⟩ : ∃ kk, k = 3 + kk := ⟨k - 3, by omega⟩
  subst hnr
  clear hx0 hx1 hx2 HD4 hl3
  have HS3 : Hid (Sees W0 w.heap.size (if kk = 0 then some (⟨b, o, none⟩ : Addr) else some ⟨b, o + 3, none⟩) (bts r)) := by
    have h9 := H0.out.see.drop (k := 3) (cap := 3 + kk) (by rw [bts_length, HN.out]; omega)
    rw [HL.out] at h9
    have h8 : (if 3 + kk = 3 then some (⟨b, o, none⟩ : Addr) else (some (⟨b, o, none⟩ : Addr)).map fun x => x.add 3) = (if kk = 0 then some (⟨b, o, none⟩ : Addr) else some ⟨b, o + 3, none⟩) := by
      by_cases h7 : kk = 0
      · rw [if_pos h7, if_pos (by omega)]
      · rw [if_neg h7, if_neg (by omega)]; simp [Addr.add_lit]
    rw [h8] at h9
    exact h9
  obtain ⟨A2, hite⟩ : ∃ z, (if kk = 0 then some (⟨b, o, none⟩ : Addr) else some ⟨b, o + 3, none⟩) = z := ⟨_, rfl⟩
  rw [hite] at HS3
  have HBR : Hid (Byt r) := fun x hx => HBY.out x (by rw [HL.out]; simp [hx])
  have hrl : r.length ≤ 1000000 := by omega
  have hkl : r.length ≤ kk := by omega
  have hkm3 : kk ≤ maxLen := by unfold maxLen; omega
  have C0 : Hid (Calls Try.prog 26 #[.slice A2 r.length kk] W0 fun e w' => e = .returned (.int .i64 (secL ids20 r : Nat)) ∧ W0 = w') := rlengths_any w.heap.size A2 r kk W0 HS3.out HBR.out hrl hkl hkm3
  obtain ⟨y, hy⟩ : ∃ y, secL ids20 r = y := ⟨_, rfl⟩
  have HY := Lib.hid hy
  rw [hy] at C0
  clear hy
  obtain ⟨y0, y1, y2, y3, z0, z1, z2, z3, q0, q1, q2, q3, r0, r1, r2, r3⟩ := H0.out.cells
  go_wp2_with fail
  refine C0.out.mono ?_
  rintro e W ⟨rfl, rfl⟩
  go_upto_region 5 with fail
  have H1 := Lib.hid (H0.out.sety (y : Int))
  have HS4 := Lib.hid (HS3.out.below ((Below.refl w.heap.size W0).setCell (p := ⟨w.heap.size + 1, 3, none⟩) (by show _ ≤ w.heap.size + 1; omega) (.int .i64 (y : Int))))
  clear H0 HS3 C0 y0 y1 y2 y3 z0 z1 z2 z3 q0 q1 q2 q3 r0 r1 r2 r3 c0 c1 c2 dn dn1 dn2 dn3 d1 d2 d3
  generalize (W0.setCell ⟨w.heap.size + 1, 3, none⟩ (.int .i64 (y : Int))) = W1 at *
  have HL3 := Lib.hid (lit_sees W1 #[.int .u8 1, .int .u8 2, .int .u8 3] 5 ids20 rfl)
  have hal := (Below.refl W1.heap.size W1).alloc (Nat.le_refl _) (.cells #[.int .u8 1, .int .u8 2, .int .u8 3] 5)
  have H2 := Lib.hid (H1.out.next hal)
  have HS5 : Hid (Sees (W1.alloc (.cells #[.int .u8 1, .int .u8 2, .int .u8 3] 5)) (W1.heap.size + 1) A2 (bts r)) := (HS4.out.below (hal.mono H1.out.blw.size)).more (by have := H1.out.blw.size; omega)
  have HS6 : Hid (W1.heap.size + 1 ≤ (W1.alloc (.cells #[.int .u8 1, .int .u8 2, .int .u8 3] 5)).heap.size) := by show _ ≤ _; simp
  have hb3 : Byt ids20 := by intro c hc; unfold ids20 at hc; simp at hc; omega
  have C1 : Hid (Calls Try.prog 27 #[.slice A2 r.length kk, .slice (some ⟨W1.heap.size, 0, none⟩) 3 3] (W1.alloc (.cells #[.int .u8 1, .int .u8 2, .int .u8 3] 5)) (RSplitP (W1.alloc (.cells #[.int .u8 1, .int .u8 2, .int .u8 3] 5)) ids20 r)) :=
    rsplit_any (W1.heap.size + 1) A2 _ r ids20 kk 3 _ HS5.out HL3.out HS6.out HBR.out hb3 hrl (by decide) hkl hkm3
  clear hal HL3
  go_wp2_with fail
  refine C1.out.mono ?_
  rintro e W2 hsp
  obtain ⟨hb1, hsp⟩ := hsp
  have H3 := Lib.hid (H2.out.next hb1)
  have hsz := hb1.size
  clear C1 hb1 H1 H2 HS4 HS5 HS6
  rcases hsp with ⟨hz, v, vs, rfl, hown, hcl⟩ | ⟨hnz, rfl⟩
  rotate_left
  · have HDD : Hid (costE l = ⟨0, 0, 0, y⟩) := by show _ = _; rw [HD0.out]; unfold cost0; rw [if_pos hnz, HY.out]
    generalize splitE ids20 r = sx at *
    have d5 : ((sx : Int) != 0) = true := by simp; omega
    clear hnz
    obtain ⟨y0, y1, y2, y3, z0, z1, z2, z3, q0, q1, q2, q3, r0, r1, r2, r3⟩ := H3.out.cells
    have HRP := Lib.hid (H3.out.fin (.int .i64 0) (.int .i64 0) (.int .i64 0) (.int .i64 (y : Int)))
    have HDE : Hid (costE l = ⟨0, 0, 0, y⟩) := HDD.out
    go_wp2
    (try simp only [Exit.inBlock, Exit.then])
    refine bodyPost_ret (v := .agg #[.int .i64 0, .int .i64 0, .int .i64 0, .int .i64 (y : Int)]) ?_ rfl (ROfP.of HDE.out HRP.out.2)
    exact results_cell_row rfl _ _ w.heap.size 27 #[.int .i64 0, .int .i64 0, .int .i64 0, .int .i64 (y : Int)] (0, 0) _ rfl HRP.out.1 Try.underlying27 rfl (by kernel_rfl)
  have hsl := split_canon (ids := ids20) (l := r) HBR.out hz
  obtain ⟨hpk, hl3⟩ := hsl
  have hps := list3 hl3 []
  have HD1 : Hid (costE l = cost1 y ((splitF ids20 r).2.1.getD 0 []) ((splitF ids20 r).2.1.getD 1 []) ((splitF ids20 r).2.1.getD 2 [])) := by show _ = _; rw [HD0.out]; unfold cost0; rw [if_neg (by omega), HY.out]
  generalize (splitF ids20 r).2.1.getD 0 [] = p0 at *
  generalize (splitF ids20 r).2.1.getD 1 [] = p1 at *
  generalize (splitF ids20 r).2.1.getD 2 [] = p2 at *
  rw [hps] at hpk hcl
  have hpb : Byt p0 ∧ Byt p1 ∧ Byt p2 := ⟨fun c hc => HBR.out c (by rw [← hpk]; exact packS_mem ids20 _ rfl p0 (by simp) c hc), fun c hc => HBR.out c (by rw [← hpk]; exact packS_mem ids20 _ rfl p1 (by simp) c hc), fun c hc => HBR.out c (by rw [← hpk]; exact packS_mem ids20 _ rfl p2 (by simp) c hc)⟩
  have hpz : p0.length + p1.length + p2.length ≤ 90000 := by
    have h9 := packS_size ids20 [p0, p1, p2] rfl
    rw [hpk] at h9
    simp only [sizeS] at h9
    omega
  obtain ⟨A0, k0, e0, l0, m0, s0⟩ := hcl.2 0 p0 rfl
  obtain ⟨A1, k1, e1, l1, m1, s1⟩ := hcl.2 1 p1 rfl
  obtain ⟨A3, k3, e3, l3, m3, s3⟩ := hcl.2 2 p2 rfl
  have hvl : vs.length = 3 := hcl.1
  obtain ⟨Av, cv, rfl, hcv, _⟩ := own_slice hown rfl
  rw [hvl] at hown hcv ⊢
  have hsv : Sees W2 W2.heap.size Av vs := Sees.of_own hown
  obtain ⟨bv, ov, rfl, hbv, hcc⟩ := hsv (by intro e; rw [e] at hvl; cases hvl)
  have HLO : Hid (w.heap.size + 1 < W2.heap.size) := H3.out.c.lt
  have HPT : Hid (PT21 W2.heap.size bv ov A0 A1 A3 k0 k1 k3 p0 p1 p2 W2) :=
    ⟨hbv, Nat.le_refl _, hcc 0 _ e0, hcc 1 _ e1, hcc 2 _ e3, ⟨s0.more hsz, l0, m0, hpb.1, by show p0.length ≤ 100000; omega⟩, ⟨s1.more hsz, l1, m1, hpb.2.1, by show p1.length ≤ 100000; omega⟩, ⟨s3.more hsz, l3, m3, hpb.2.2, by show p2.length ≤ 100000; omega⟩⟩
  clear hite hown hcl s0 s1 s3 hcc hsz hsv e0 e1 e3 hpk hps hl3 hz HD0 HL HN HBR hb3 HY
  have g0 := HPT.out.g0; have g1 := HPT.out.g1; have g2 := HPT.out.g2
  obtain ⟨B2, hB2⟩ : ∃ B2, W2.heap.size = B2 := ⟨_, rfl⟩
  have HF0 : Hid (OF21 w (some ⟨b, o, none⟩) l 0 0 0 y B2 bv ov A0 A1 A3 k0 k1 k3 p0 p1 p2 B2 A0 k0 ⟨p0, 0⟩ (W2.alloc (.cells #[.slice A0 p0.length k0, .int .i64 0] 55))) := by
    have hal := (Below.refl W2.heap.size W2).alloc (Nat.le_refl _) (.cells #[.slice A0 p0.length k0, .int .i64 0] 55)
    rw [← hB2]
    exact ⟨H3.out.next hal, HLO.out, HPT.out.below hal, Nat.le_refl _, HPT.out.i0.below hal, Row.new W2 _ _⟩
  have HB2 := Lib.hid hB2
  clear hB2 HPT H3 HLO
  obtain ⟨⟨a, sa⟩, hA⟩ : ∃ y, fA ⟨p0, 0⟩ = y := ⟨_, rfl⟩
  obtain ⟨⟨rg, sr⟩, hR⟩ : ∃ y, fR' ⟨p0, 0⟩ = y := ⟨_, rfl⟩
  obtain ⟨sc, hC⟩ : ∃ y, fC ⟨p0, 0⟩ = y := ⟨_, rfl⟩
  have EA : Hid (sizeE ⟨p0, 0⟩ = (a, sa)) := hA
  have ER : Hid (sizeE sa = (rg, sr)) := by show _ = _; have := hR; unfold fR' at this; rw [hA] at this; exact this
  have EC : Hid ((if rg < a then failE 9 sr else sr) = sc) := by show _ = _; have := hC; unfold fC at this; rw [hA, hR] at this; exact this
  have EB : Hid ((cntE 3 sc).1 = fcB ⟨p0, 0⟩) := by show _ = _; unfold fcB; rw [hC]
  have EI : Hid (cI rg (cntE 3 sc).1 (cntE 3 sc).1.toNat 0 (cntE 3 sc).2 = fcI ⟨p0, 0⟩) := by show _ = _; unfold fcI fcB; rw [hC, hR]
  have rr : 0 ≤ rg ∧ rg ≤ 1048576 := by have := sizeE_rng (s := sa); rw [ER.out] at this; exact this
  clear hA hR hC
  go_upto_region 11 with fail
  generalize (W2.alloc (.cells #[.slice A0 p0.length k0, .int .i64 0] 55)) = W3 at *
  rw [HB2.out]
  clear HB2
  have C := Lib.hid (rsize18_any HF0.out.ip HF0.out.pt.le)
  rw [EA.out] at C
  have q0 := HF0.out.bx.k0; have q1 := HF0.out.bx.k1
  clear g0 g1 g2
  go_wp2_with fail
  refine C.out.mono ?_
  rintro e W4 ⟨A4, cA4, rfl, hI, hb⟩
  have HF1 := Lib.hid (HF0.out.inpt hI hb)
  have HFn := Lib.hid (HF0.out.next hb)
  clear C HF0 hI hb q0 q1
  have q0 := HFn.out.bx.k0; have q1 := HFn.out.bx.k1
  have qf0 := HFn.out.bx.frozen 0; have qf1 := HFn.out.bx.frozen 1
  go_upto_region 12 with fail
  clear q0 q1 qf0 qf1 HFn
  generalize ((W4.setCell ⟨B2, 0, none⟩ (.slice A4 sa.rest.length cA4)).setCell ⟨B2, 1, none⟩ (.int .i64 sa.err)) = W5 at *
  have C := Lib.hid (rsize18_any HF1.out.ip HF1.out.pt.le)
  rw [ER.out] at C
  have q0 := HF1.out.bx.k0; have q1 := HF1.out.bx.k1
  go_wp2_with fail
  refine C.out.mono ?_
  rintro e W6 ⟨A5, cA5, rfl, hI, hb⟩
  have HF2 := Lib.hid (HF1.out.inpt hI hb)
  have HFn := Lib.hid (HF1.out.next hb)
  clear C HF1 hI hb q0 q1
  have q0 := HFn.out.bx.k0; have q1 := HFn.out.bx.k1
  have qf0 := HFn.out.bx.frozen 0; have qf1 := HFn.out.bx.frozen 1
  go_upto_region 13 with fail
  clear q0 q1 qf0 qf1 HFn
  generalize ((W6.setCell ⟨B2, 0, none⟩ (.slice A5 sr.rest.length cA5)).setCell ⟨B2, 1, none⟩ (.int .i64 sr.err)) = W7 at *
  have q0 := HF2.out.bx.k0; have q1 := HF2.out.bx.k1
  have qf0 := HF2.out.bx.frozen 0; have qf1 := HF2.out.bx.frozen 1
  go_upto_if 73 with fail
  go_cut [] from 21 (fun wx => ∃ A c, Hid (OF21 w (some ⟨b, o, none⟩) l 0 0 0 y B2 bv ov A0 A1 A3 k0 k1 k3 p0 p1 p2 B2 A c sc wx))
  case first =>
    by_cases hc : rg < a
    · have hcE : Hid (failE 9 sr = sc) := by show _ = _; rw [← EC.out, if_pos hc]
      have C := Lib.hid (rfail18_any 9 HF2.out.ip HF2.out.pt.le)
      rw [hcE.out] at C
      go_wp2_with fail
      refine C.out.mono ?_
      rintro e W8 ⟨A6, c6, rfl, hI, hb⟩
      have HF3 := Lib.hid (HF2.out.inpt hI hb)
      have HFn := Lib.hid (HF2.out.next hb)
      clear C HF2 hI hb q0 q1 qf0 qf1
      have q0 := HFn.out.bx.k0; have q1 := HFn.out.bx.k1
      have qf0 := HFn.out.bx.frozen 0; have qf1 := HFn.out.bx.frozen 1
      go_wp2_with fail
      go_meet
      case rel => exact ⟨A6, c6, HF3⟩
    · have hcE : Hid (sr = sc) := by show _ = _; rw [← EC.out, if_neg hc]
      have hc' : a ≤ rg := by omega
      clear hc
      go_wp2_with fail
      go_meet
      case rel => exact ⟨A5, cA5, by rw [← hcE.out]; exact HF2⟩
  case rest =>
    obtain ⟨A6, c6, HF3⟩ := hcut
    clear HF2 q0 q1 qf0 qf1 EC
    go_upto_region 15 with fail
    have hfl := fc_le (s := ⟨p0, 0⟩) hpb.1
    have hp0l : ((⟨p0, 0⟩ : Ip).rest.length : Int) ≤ 90000 := by show (p0.length : Int) ≤ _; omega
    have C := Lib.hid (rfunS_any HF3.out.ip HF3.out.pt.le rg (-1) (by omega) (by decide))
    rw [EI.out, EB.out] at C
    obtain ⟨fb, hfb⟩ : ∃ z, fcB ⟨p0, 0⟩ = z := ⟨_, rfl⟩
    obtain ⟨fi, hfi⟩ : ∃ z, fcI ⟨p0, 0⟩ = z := ⟨_, rfl⟩
    rw [hfb, hfi] at C hfl
    have hfl2 : 0 ≤ fb ∧ fb ≤ 90000 ∧ 0 ≤ fi ∧ fi ≤ 90000 := by omega
    have HD2 : Hid (costE l = if endT (funcE ⟨p0, 0⟩).2 ≠ 0 then ⟨fb, fi, 0, y⟩ else if endT (mfuncE ⟨p1, 0⟩).2 ≠ 0 ∨ (funcE ⟨p0, 0⟩).1.bs.length ≠ (mfuncE ⟨p1, 0⟩).1.ms.length ∨ (funcE ⟨p0, 0⟩).1.args ≠ (mfuncE ⟨p1, 0⟩).1.args then ⟨fb + gcB ⟨p1, 0⟩, fi + gcI ⟨p1, 0⟩, 0, y⟩
        else ⟨fb + gcB ⟨p1, 0⟩, fi + gcI ⟨p1, 0⟩, cP (funcE ⟨p0, 0⟩).1.regs (mfuncE ⟨p1, 0⟩).1.regs (mfuncE ⟨p1, 0⟩).1.slots (funcE ⟨p0, 0⟩).1.bs.length 0 ⟨p2, 0⟩, y⟩) := by
      show _ = _
      rw [HD1.out]
      unfold cost1
      rw [hfb, hfi]
    clear hfb hfi EI EB hfl hp0l HD1
    have q0 := HF3.out.bx.k0; have q1 := HF3.out.bx.k1
    go_wp2_with fail
    refine C.out.mono ?_
    rintro e W9 ⟨rfl, hb⟩
    have HF4 := Lib.hid (HF3.out.next hb)
    clear C hb q0 q1 HF3
    obtain ⟨y0, y1, y2, y3, z0, z1, z2, z3, q0, q1, q2, q3, r0, r1, r2, r3⟩ := HF4.out.x.cells
    go_upto_region 16 with fail
    have HF5 := Lib.hid (HF4.out.set ((HF4.out.x.set0 fb).set1 fi) (((Mods.refl _ _).put 0 _).put 1 _))
    clear HF4 y0 y1 y2 y3 z0 z1 z2 z3 q0 q1 q2 q3 r0 r1 r2 r3
    generalize ((W9.setCell ⟨w.heap.size + 1, 0, none⟩ (.int .i64 fb)).setCell ⟨w.heap.size + 1, 1, none⟩ (.int .i64 fi)) = W10 at *
    have g0 := HF5.out.pt.g0
    have C := Lib.hid (rfunc18_any HF5.out.pt.i0 HF5.out.pt.le)
    have HFB : Hid (endT (funcE ⟨p0, 0⟩).2 = 0 → (funcE ⟨p0, 0⟩).1.bs.length ≤ p0.length ∧ 0 ≤ (funcE ⟨p0, 0⟩).1.regs ∧ (funcE ⟨p0, 0⟩).1.regs ≤ 1048576) := fun h => fbnd21 hpb.1 h
    generalize (funcE ⟨p0, 0⟩).1 = f at *
    generalize (funcE ⟨p0, 0⟩).2 = t at *
    go_wp2_with fail
    refine C.out.mono ?_
    rintro e W11 ⟨v, vs6, A7, c7, rfl, hn, hip, hb⟩
    obtain ⟨Af, cf, rfl, hcf1, hcf2, _⟩ := nest_blks hn
    have hal := (Below.refl W11.heap.size W11).alloc (Nat.le_refl _) (.cells #[.int .i64 f.args, .int .i64 f.regs, .slice Af f.bs.length cf] 63)
    have hal2 := hal.alloc hal.size (.cells #[.slice A7 t.rest.length c7, .int .i64 t.err] 55)
    have R7 := Lib.hid ((Row.new W11 63 #[.int .i64 f.args, .int .i64 f.regs, .slice Af f.bs.length cf]).alloc (.cells #[.slice A7 t.rest.length c7, .int .i64 t.err] 55))
    have R8 := Lib.hid (Row.new' (W := W11.alloc (.cells #[.int .i64 f.args, .int .i64 f.regs, .slice Af f.bs.length cf] 63)) (p := W11.heap.size + 1) (by simp) 55 #[.slice A7 t.rest.length c7, .int .i64 t.err])
    have HF6 := Lib.hid (HF5.out.next (hb.trans (hal2.mono hb.size)))
    have h7 : B2 < W11.heap.size := by have h8 := HF5.out.bx.lt; have h9 := hb.size; omega
    have htl := hip.sm
    clear hn hip hb hal hal2 C g0 HF5
    go_upto_region 17 with fail
    generalize ((W11.alloc (.cells #[.int .i64 f.args, .int .i64 f.regs, .slice Af f.bs.length cf] 63)).alloc (.cells #[.slice A7 t.rest.length c7, .int .i64 t.err] 55)) = W12 at *
    generalize W11.heap.size = b7 at *
    have u0 := R8.out.k0; have u1 := R8.out.k1
    by_cases het : t.err ≠ 0 ∨ 0 < t.rest.length
    · have HDD : Hid (costE l = ⟨fb, fi, 0, y⟩) := by
        show _ = _
        rw [HD2.out, if_pos]
        intro h9
        obtain ⟨h1, h2⟩ := endT_zero h9
        rw [h2] at het
        rcases het with h | h
        · exact h h1
        · simp at h
      obtain ⟨y0, y1, y2, y3, z0, z1, z2, z3, q0, q1, q2, q3, r0, r1, r2, r3⟩ := HF6.out.x.cells
      have HRP := Lib.hid (HF6.out.x.fin (.int .i64 fb) (.int .i64 fi) (.int .i64 0) (.int .i64 (y : Int)))
      by_cases he : t.err ≠ 0
      · have d1 : (t.err != 0) = true := by simp [he]
        clear he het
        go_wp2
        (try simp only [Exit.inBlock, Exit.then])
        refine bodyPost_ret (v := .agg #[.int .i64 fb, .int .i64 fi, .int .i64 0, .int .i64 (y : Int)]) ?_ rfl (ROfP.of HDD.out HRP.out.2)
        exact results_cell_row rfl _ _ w.heap.size 27 #[.int .i64 fb, .int .i64 fi, .int .i64 0, .int .i64 (y : Int)] (0, 0) _ rfl HRP.out.1 Try.underlying27 rfl (by kernel_rfl)
      · have d1 : (t.err != 0) = false := by simpa using he
        have d2 : (0 : Int) < (t.rest.length : Int) := by omega
        clear he het
        go_wp2
        (try simp only [Exit.inBlock, Exit.then])
        refine bodyPost_ret (v := .agg #[.int .i64 fb, .int .i64 fi, .int .i64 0, .int .i64 (y : Int)]) ?_ rfl (ROfP.of HDD.out HRP.out.2)
        exact results_cell_row rfl _ _ w.heap.size 27 #[.int .i64 fb, .int .i64 fi, .int .i64 0, .int .i64 (y : Int)] (0, 0) _ rfl HRP.out.1 Try.underlying27 rfl (by kernel_rfl)
    have he0 : t.err = 0 := by omega
    have hr0 : t.rest.length = 0 := by omega
    have HD3 : Hid (endT t = 0) := by show (if t.err = 0 ∧ 0 < t.rest.length then 2 else t.err) = 0; rw [if_neg (by omega), he0]
    have d1 : (t.err != 0) = false := by simp [he0]
    have d2 : ¬ (0 : Int) < (t.rest.length : Int) := by omega
    clear het
    have q0 := HF6.out.bx.k0; have q1 := HF6.out.bx.k1
    have qf0 := HF6.out.bx.frozen 0; have qf1 := HF6.out.bx.frozen 1
    have g1 := HF6.out.pt.g1
    go_upto_region 20 with fail
    have HG0 : Hid (OG21 w (some ⟨b, o, none⟩) l fb fi 0 y B2 bv ov A0 A1 A3 k0 k1 k3 p0 p1 p2 B2 A1 k1 ⟨p1, 0⟩ b7 #[.int .i64 f.args, .int .i64 f.regs, .slice Af f.bs.length cf] ((W12.setCell ⟨B2, 0, none⟩ (.slice A1 p1.length k1)).setCell ⟨B2, 1, none⟩ (.int .i64 0))) := by
      have hm : Mods (Is B2) W12 ((W12.setCell ⟨B2, 0, none⟩ (.slice A1 p1.length k1)).setCell ⟨B2, 1, none⟩ (.int .i64 0)) := ((Mods.refl _ _).put 0 _).put 1 _
      exact ⟨HF6.out.inpt HF6.out.pt.i1 (Below.refl _ _), h7, R7.out.mods hm (by unfold Is; omega)⟩
    clear q0 q1 qf0 qf1 g1 HF6 R7 u0 u1 R8 d1 d2 hr0 he0
    generalize ((W12.setCell ⟨B2, 0, none⟩ (.slice A1 p1.length k1)).setCell ⟨B2, 1, none⟩ (.int .i64 0)) = W13 at *
    obtain ⟨⟨a2, sa2⟩, hA⟩ : ∃ y, fA ⟨p1, 0⟩ = y := ⟨_, rfl⟩
    obtain ⟨⟨rg2, sr2⟩, hR⟩ : ∃ y, fR' ⟨p1, 0⟩ = y := ⟨_, rfl⟩
    obtain ⟨⟨sl2, ss2⟩, hS⟩ : ∃ y, gS ⟨p1, 0⟩ = y := ⟨_, rfl⟩
    obtain ⟨sc2, hC⟩ : ∃ y, gC ⟨p1, 0⟩ = y := ⟨_, rfl⟩
    have EA : Hid (sizeE ⟨p1, 0⟩ = (a2, sa2)) := hA
    have ER : Hid (sizeE sa2 = (rg2, sr2)) := by show _ = _; have := hR; unfold fR' at this; rw [hA] at this; exact this
    have ES : Hid (sizeE sr2 = (sl2, ss2)) := by show _ = _; have := hS; unfold gS at this; rw [hR] at this; exact this
    have EC : Hid ((if sl2 < a2 then failE 10 ss2 else ss2) = sc2) := by show _ = _; have := hC; unfold gC at this; rw [hA, hS] at this; exact this
    have EB : Hid ((cntE 3 sc2).1 = gcB ⟨p1, 0⟩) := by show _ = _; unfold gcB; rw [hC]
    have EI : Hid (cM rg2 sl2 (cntE 3 sc2).1 (cntE 3 sc2).1.toNat 0 (cntE 3 sc2).2 = gcI ⟨p1, 0⟩) := by show _ = _; unfold gcI gcB; rw [hC, hR, hS]
    have rr2 : 0 ≤ rg2 ∧ rg2 ≤ 1048576 := by have := sizeE_rng (s := sa2); rw [ER.out] at this; exact this
    have rs2 : 0 ≤ sl2 ∧ sl2 ≤ 1048576 := by have := sizeE_rng (s := sr2); rw [ES.out] at this; exact this
    clear hA hR hS hC
    go_upto_region 21 with fail
    have C := Lib.hid (rsize18_any HG0.out.o.ip HG0.out.o.pt.le)
    rw [EA.out] at C
    have q0 := HG0.out.o.bx.k0; have q1 := HG0.out.o.bx.k1
    go_wp2_with fail
    refine C.out.mono ?_
    rintro e W14 ⟨A8, cA8, rfl, hI, hb⟩
    have HG1 := Lib.hid (HG0.out.inpt hI hb)
    have HFn := Lib.hid (HG0.out.next hb)
    clear C HG0 hI hb q0 q1
    have q0 := HFn.out.o.bx.k0; have q1 := HFn.out.o.bx.k1
    have qf0 := HFn.out.o.bx.frozen 0; have qf1 := HFn.out.o.bx.frozen 1
    go_upto_region 22 with fail
    clear q0 q1 qf0 qf1 HFn
    generalize ((W14.setCell ⟨B2, 0, none⟩ (.slice A8 sa2.rest.length cA8)).setCell ⟨B2, 1, none⟩ (.int .i64 sa2.err)) = W15 at *
    have C := Lib.hid (rsize18_any HG1.out.o.ip HG1.out.o.pt.le)
    rw [ER.out] at C
    have q0 := HG1.out.o.bx.k0; have q1 := HG1.out.o.bx.k1
    go_wp2_with fail
    refine C.out.mono ?_
    rintro e W16 ⟨A9, cA9, rfl, hI, hb⟩
    have HG2 := Lib.hid (HG1.out.inpt hI hb)
    have HFn := Lib.hid (HG1.out.next hb)
    clear C HG1 hI hb q0 q1
    have q0 := HFn.out.o.bx.k0; have q1 := HFn.out.o.bx.k1
    have qf0 := HFn.out.o.bx.frozen 0; have qf1 := HFn.out.o.bx.frozen 1
    go_upto_region 23 with fail
    clear q0 q1 qf0 qf1 HFn
    generalize ((W16.setCell ⟨B2, 0, none⟩ (.slice A9 sr2.rest.length cA9)).setCell ⟨B2, 1, none⟩ (.int .i64 sr2.err)) = W17 at *
    have C := Lib.hid (rsize18_any HG2.out.o.ip HG2.out.o.pt.le)
    rw [ES.out] at C
    have q0 := HG2.out.o.bx.k0; have q1 := HG2.out.o.bx.k1
    go_wp2_with fail
    refine C.out.mono ?_
    rintro e W18 ⟨A10, cA10, rfl, hI, hb⟩
    have HG3 := Lib.hid (HG2.out.inpt hI hb)
    have HFn := Lib.hid (HG2.out.next hb)
    clear C HG2 hI hb q0 q1
    have q0 := HFn.out.o.bx.k0; have q1 := HFn.out.o.bx.k1
    have qf0 := HFn.out.o.bx.frozen 0; have qf1 := HFn.out.o.bx.frozen 1
    go_upto_region 24 with fail
    clear q0 q1 qf0 qf1 HFn
    generalize ((W18.setCell ⟨B2, 0, none⟩ (.slice A10 ss2.rest.length cA10)).setCell ⟨B2, 1, none⟩ (.int .i64 ss2.err)) = W19 at *
    have q0 := HG3.out.o.bx.k0; have q1 := HG3.out.o.bx.k1
    have qf0 := HG3.out.o.bx.frozen 0; have qf1 := HG3.out.o.bx.frozen 1
    go_upto_if 123 with fail
    go_cut [] from 21 (fun wx => ∃ A c, Hid (OG21 w (some ⟨b, o, none⟩) l fb fi 0 y B2 bv ov A0 A1 A3 k0 k1 k3 p0 p1 p2 B2 A c sc2 b7 #[.int .i64 f.args, .int .i64 f.regs, .slice Af f.bs.length cf] wx))
    case first =>
      by_cases hc : sl2 < a2
      · have hcE : Hid (failE 10 ss2 = sc2) := by show _ = _; rw [← EC.out, if_pos hc]
        have C := Lib.hid (rfail18_any 10 HG3.out.o.ip HG3.out.o.pt.le)
        rw [hcE.out] at C
        go_wp2_with fail
        refine C.out.mono ?_
        rintro e W20 ⟨A11, c11, rfl, hI, hb⟩
        have HG4 := Lib.hid (HG3.out.inpt hI hb)
        have HFn := Lib.hid (HG3.out.next hb)
        clear C HG3 hI hb q0 q1 qf0 qf1
        have q0 := HFn.out.o.bx.k0; have q1 := HFn.out.o.bx.k1
        have qf0 := HFn.out.o.bx.frozen 0; have qf1 := HFn.out.o.bx.frozen 1
        go_wp2_with fail
        go_meet
        case rel => exact ⟨A11, c11, HG4⟩
      · have hcE : Hid (ss2 = sc2) := by show _ = _; rw [← EC.out, if_neg hc]
        have hc' : a2 ≤ sl2 := by omega
        clear hc
        go_wp2_with fail
        go_meet
        case rel => exact ⟨A10, cA10, by rw [← hcE.out]; exact HG3⟩
    case rest =>
      obtain ⟨A11, c11, HG4⟩ := hcut
      clear HG3 q0 q1 qf0 qf1 EC
      go_upto_region 26 with fail
      have hgl := gc_le (s := ⟨p1, 0⟩) hpb.2.1
      have hp1l : ((⟨p1, 0⟩ : Ip).rest.length : Int) ≤ 90000 := by show (p1.length : Int) ≤ _; omega
      have C := Lib.hid (rfunM_any HG4.out.o.ip HG4.out.o.pt.le rg2 sl2 (by omega) (by omega))
      rw [EI.out, EB.out] at C
      obtain ⟨gb, hgb⟩ : ∃ z, gcB ⟨p1, 0⟩ = z := ⟨_, rfl⟩
      obtain ⟨gi, hgi⟩ : ∃ z, gcI ⟨p1, 0⟩ = z := ⟨_, rfl⟩
      rw [hgb, hgi] at C hgl
      rw [hgb, hgi] at HD2
      have hgl2 : 0 ≤ gb ∧ gb ≤ 90000 ∧ 0 ≤ gi ∧ gi ≤ 90000 := by omega
      clear hgb hgi EI EB hgl hp1l
      have q0 := HG4.out.o.bx.k0; have q1 := HG4.out.o.bx.k1
      go_wp2_with fail
      refine C.out.mono ?_
      rintro e W21 ⟨rfl, hb⟩
      have HG5 := Lib.hid (HG4.out.next hb)
      clear C hb q0 q1 HG4
      obtain ⟨y0, y1, y2, y3, z0, z1, z2, z3, q0, q1, q2, q3, r0, r1, r2, r3⟩ := HG5.out.o.x.cells
      go_upto_region 29 with fail
      have HG6 := Lib.hid (HG5.out.set ((HG5.out.o.x.set0 (fb + gb)).set1 (fi + gi)) (((Mods.refl _ _).put 0 _).put 1 _))
      clear HG5 y0 y1 y2 y3 z0 z1 z2 z3 q0 q1 q2 q3 r0 r1 r2 r3
      generalize ((W21.setCell ⟨w.heap.size + 1, 0, none⟩ (.int .i64 (fb + gb))).setCell ⟨w.heap.size + 1, 1, none⟩ (.int .i64 (fi + gi))) = W22 at *
      have g1 := HG6.out.o.pt.g1
      have C := Lib.hid (rmfunc18_any HG6.out.o.pt.i1 HG6.out.o.pt.le)
      have HGB : Hid (endT (mfuncE ⟨p1, 0⟩).2 = 0 → 0 ≤ (mfuncE ⟨p1, 0⟩).1.regs ∧ (mfuncE ⟨p1, 0⟩).1.regs ≤ 1048576 ∧ 0 ≤ (mfuncE ⟨p1, 0⟩).1.slots ∧ (mfuncE ⟨p1, 0⟩).1.slots ≤ 1048576) := fun h => gbnd21 hpb.2.1 h
      generalize (mfuncE ⟨p1, 0⟩).1 = gg at *
      generalize (mfuncE ⟨p1, 0⟩).2 = t2 at *
      go_wp2_with fail
      refine C.out.mono ?_
      rintro e W23 ⟨v, vs8, A12, c12, rfl, hn, hip, hb⟩
      obtain ⟨Ag, cg, rfl, hcg1, hcg2⟩ := ownS_slice hn.outer
      rw [hn.len] at hcg1 ⊢
      have hal := (Below.refl W23.heap.size W23).alloc (Nat.le_refl _) (.cells #[.int .i64 gg.args, .int .i64 gg.regs, .int .i64 gg.slots, .slice Ag gg.ms.length cg] 68)
      have hal2 := hal.alloc hal.size (.cells #[.slice A12 t2.rest.length c12, .int .i64 t2.err] 55)
      have R9 := Lib.hid ((Row.new W23 68 #[.int .i64 gg.args, .int .i64 gg.regs, .int .i64 gg.slots, .slice Ag gg.ms.length cg]).alloc (.cells #[.slice A12 t2.rest.length c12, .int .i64 t2.err] 55))
      have R10 := Lib.hid (Row.new' (W := W23.alloc (.cells #[.int .i64 gg.args, .int .i64 gg.regs, .int .i64 gg.slots, .slice Ag gg.ms.length cg] 68)) (p := W23.heap.size + 1) (by simp) 55 #[.slice A12 t2.rest.length c12, .int .i64 t2.err])
      have HG7 := Lib.hid (HG6.out.next (hb.trans (hal2.mono hb.size)))
      have h8 : b7 < W23.heap.size := by have h8 := HG6.out.r.lt; have h9 := hb.size; omega
      have htl2 := hip.sm
      clear hn hip hb hal hal2 C g1 HG6
      go_upto_region 30 with fail
      generalize ((W23.alloc (.cells #[.int .i64 gg.args, .int .i64 gg.regs, .int .i64 gg.slots, .slice Ag gg.ms.length cg] 68)).alloc (.cells #[.slice A12 t2.rest.length c12, .int .i64 t2.err] 55)) = W24 at *
      have h82 : B2 < b7 := HG7.out.hq
      generalize W23.heap.size = b8 at *
      have u0 := R10.out.k0; have u1 := R10.out.k1
      have v0 := HG7.out.r.k0; have v2 := HG7.out.r.k2
      have x0 := R9.out.k0; have x3 := R9.out.k3
      have HPB : Hid (∀ vr r n, 0 ≤ cP vr r n f.bs.length 0 ⟨p2, 0⟩ ∧ 2 * cP vr r n f.bs.length 0 ⟨p2, 0⟩ ≤ (p2.length : Int)) := fun vr r n => cP_two f.bs.length 0 ⟨p2, 0⟩ hpb.2.2
      obtain ⟨bl, hbl⟩ : ∃ bl, decide ((t2.err ≠ 0 ∨ t2.rest.length ≠ 0) ∨ f.bs.length ≠ gg.ms.length ∨ f.args ≠ gg.args) = bl := ⟨_, rfl⟩
      have HBAD : Hid (bl = true → costE l = ⟨fb + gb, fi + gi, 0, y⟩) := fun h9 => by
        rw [h9] at hbl
        have hbad := of_decide_eq_true hbl
        rw [HD2.out, if_neg (fun h => h HD3.out), if_pos]
        rcases hbad with h | h
        · left
          intro h9
          obtain ⟨h1, h2⟩ := endT_zero h9
          rw [h2] at h
          rcases h with h | h
          · exact h h1
          · simp at h
        · exact .inr h
      have HOK : Hid (bl = false → endT t2 = 0 ∧ costE l = ⟨fb + gb, fi + gi, cP f.regs gg.regs gg.slots f.bs.length 0 ⟨p2, 0⟩, y⟩) := fun h9 => by
        rw [h9] at hbl
        have hgood := of_decide_eq_false hbl
        have e0 : endT t2 = 0 := by show (if t2.err = 0 ∧ 0 < t2.rest.length then 2 else t2.err) = 0; rw [if_neg (by omega)]; omega
        refine ⟨e0, ?_⟩
        rw [HD2.out, if_neg (fun h => h HD3.out), if_neg]
        rintro (h | h | h)
        · exact h e0
        · omega
        · omega
      have HBL := Lib.hid hbl
      clear hbl HD2
      generalize t2.rest.length = n2 at *
      generalize t2.err = e2 at *
      go_cut [175] from 151 (fun s wx => s = .bool bl ∧ wx = W24)
      case first =>
        by_cases he : e2 = 0
        · have d1 : (e2 != 0) = false := by simp [he]
          by_cases hl9 : n2 = 0
          · have d2 : decide ((0 : Int) < (n2 : Int)) = false := by simp; omega
            have d2' : ¬ (0 : Int) < (n2 : Int) := by omega
            have d2n : decide (0 < n2) = false := by simp; omega
            have d2m : ¬ 0 < n2 := by omega
            by_cases hb9 : f.bs.length = gg.ms.length
            · have d3 : ((f.bs.length : Int) != (gg.ms.length : Int)) = false := by simp; omega
              have hb : Hid ((f.args != gg.args) = bl) := by show _ = _; rw [← HBL.out, Bool.eq_iff_iff]; simp [he, hl9, hb9]
              clear he hl9 hb9
              go_wp2_with fail
              go_meet
              case rel => exact ⟨by rw [hb.out], rfl⟩
            · have d3 : ((f.bs.length : Int) != (gg.ms.length : Int)) = true := by simp; omega
              have hb : Hid (true = bl) := by show _ = _; rw [← HBL.out]; simp [hb9]
              clear he hl9 hb9
              go_wp2_with fail
              go_meet
              case rel => exact ⟨by rw [← hb.out], rfl⟩
          · have d2 : decide ((0 : Int) < (n2 : Int)) = true := by simp; omega
            have d2' : (0 : Int) < (n2 : Int) := by omega
            have d2n : decide (0 < n2) = true := by simp; omega
            have d2m : 0 < n2 := by omega
            have hb : Hid (true = bl) := by show _ = _; rw [← HBL.out]; simp [hl9]
            clear he hl9
            go_wp2_with fail
            go_meet
            case rel => exact ⟨by rw [← hb.out], rfl⟩
        · have d1 : (e2 != 0) = true := by simp [he]
          have hb : Hid (true = bl) := by show _ = _; rw [← HBL.out]; simp [he]
          clear he
          go_wp2_with fail
          go_meet
          case rel => exact ⟨by rw [← hb.out], rfl⟩
      case rest =>
        obtain ⟨hs, hwc⟩ := hcut
        subst hs hwc
        clear u0 u1 v0 v2 x0 x3 HBL
        cases bl with
        | true =>
          have HDE := Lib.hid (HBAD.out rfl)
          obtain ⟨y0, y1, y2, y3, z0, z1, z2, z3, q0, q1, q2, q3, r0, r1, r2, r3⟩ := HG7.out.o.x.cells
          have HRP := Lib.hid (HG7.out.o.x.fin (.int .i64 (fb + gb)) (.int .i64 (fi + gi)) (.int .i64 0) (.int .i64 (y : Int)))
          clear HBAD HOK
          go_wp2
          (try simp only [Exit.inBlock, Exit.then])
          refine bodyPost_ret (v := .agg #[.int .i64 (fb + gb), .int .i64 (fi + gi), .int .i64 0, .int .i64 (y : Int)]) ?_ rfl (ROfP.of HDE.out HRP.out.2)
          exact results_cell_row rfl _ _ w.heap.size 27 #[.int .i64 (fb + gb), .int .i64 (fi + gi), .int .i64 0, .int .i64 (y : Int)] (0, 0) _ rfl HRP.out.1 Try.underlying27 rfl (by kernel_rfl)
        | false =>
          obtain ⟨he2, hcost⟩ := HOK.out rfl
          have HDE := Lib.hid hcost
          obtain ⟨_, fr1, fr2⟩ := HFB.out HD3.out
          obtain ⟨gr1, gr2, gs1, gs2⟩ := HGB.out he2
          have hpt := HPB.out f.regs gg.regs gg.slots
          clear HBAD HOK hcost HFB HGB HPB he2 HD3
          have g2 := HG7.out.o.pt.g2
          obtain ⟨P, hP⟩ : ∃ P, cP f.regs gg.regs gg.slots f.bs.length 0 ⟨p2, 0⟩ = P := ⟨_, rfl⟩
          rw [hP] at HDE hpt
          have HPP := Lib.hid hP
          clear hP
          go_upto_region 33 with fail
          have hal := (Below.refl wc.heap.size wc).alloc (Nat.le_refl _) (.cells #[.slice A3 p2.length k3, .int .i64 0] 55)
          obtain ⟨q9, hq9⟩ : ∃ q9, wc.heap.size = q9 := ⟨_, rfl⟩
          have h8q : b8 < wc.heap.size := R9.out.lt
          have HL0 : Hid (OL21 w (some ⟨b, o, none⟩) l (fb + gb) (fi + gi) 0 y B2 b7 b8 q9 #[.int .i64 f.args, .int .i64 f.regs, .slice Af f.bs.length cf] #[.int .i64 gg.args, .int .i64 gg.regs, .int .i64 gg.slots, .slice Ag gg.ms.length cg] A3 k3 ⟨p2, 0⟩ (wc.alloc (.cells #[.slice A3 p2.length k3, .int .i64 0] 55))) := by
            rw [← hq9]
            exact ⟨HG7.out.o.x.next hal, HG7.out.o.lo, Nat.le_trans HG7.out.o.pt.le hal.size, HG7.out.o.pt.i2.below (hal.mono HG7.out.o.pt.le), HG7.out.r.below hal HG7.out.r.lt, R9.out.below hal R9.out.lt, Row.new wc _ _, Nat.le_of_lt h82, h8, h8q⟩
          rw [hq9]
          clear hal hq9 HG7 R9 R10 g2 h8q
          generalize (wc.alloc (.cells #[.slice A3 p2.length k3, .int .i64 0] 55)) = W25 at *
          go_wp2
          go_loopg [17, 18] f.bs.length (fun gk v17 v18 wr => ∃ (i : Nat) (tot p' : Int) (A' : Option Addr) (c' : Nat) (t' : Ip), i + gk = f.bs.length ∧ v17 = .int .i64 tot ∧ v18 = .int .i64 i ∧ 0 ≤ tot ∧ tot ≤ 1048576 ∧ 0 ≤ p' ∧ Hid (p' + cP f.regs gg.regs gg.slots gk tot t' = P) ∧ Hid (OL21 w (some ⟨b, o, none⟩) l (fb + gb) (fi + gi) p' y B2 b7 b8 q9 #[.int .i64 f.args, .int .i64 f.regs, .slice Af f.bs.length cf] #[.int .i64 gg.args, .int .i64 gg.regs, .int .i64 gg.slots, .slice Ag gg.ms.length cg] A' c' t' wr))
          case atStart => exact ⟨0, 0, 0, A3, k3, ⟨p2, 0⟩, by omega, rfl, rfl, by omega, by omega, by omega, (by show 0 + _ = P; rw [Int.zero_add]; exact HPP.out), HL0.out⟩
          case round =>
            clear HL0 HPP
            obtain ⟨i, tot, p', A', c', t', hig, rfl, rfl, ht0, ht1, hp0', HT, HL⟩ := hrel
            have v2 := HL.out.r7.k2
            have q0 := HL.out.bx.k0; have q1 := HL.out.bx.k1
            cases gk with
            | zero =>
              have hlt : ¬ (i : Int) < (f.bs.length : Int) := by omega
              have hltn : ¬ i < f.bs.length := by omega
              have HE : Hid (P = p') := by show P = p'; rw [← HT.out]; exact Int.add_zero _
              clear HT
              have HDF : Hid (costE l = ⟨fb + gb, fi + gi, p', y⟩) := by show _ = _; rw [HDE.out, HE.out]
              obtain ⟨y0, y1, y2, y3, z0, z1, z2, z3, qq0, qq1, qq2, qq3, r0, r1, r2, r3⟩ := HL.out.x.cells
              have HRP := Lib.hid (HL.out.x.fin (.int .i64 (fb + gb)) (.int .i64 (fi + gi)) (.int .i64 p') (.int .i64 (y : Int)))
              go_wp2
              (try simp only [Exit.inBlock, Exit.then])
              refine bodyPost_ret (v := .agg #[.int .i64 (fb + gb), .int .i64 (fi + gi), .int .i64 p', .int .i64 (y : Int)]) ?_ rfl (ROfP.of HDF.out HRP.out.2)
              exact results_cell_row rfl _ _ w.heap.size 27 #[.int .i64 (fb + gb), .int .i64 (fi + gi), .int .i64 p', .int .i64 (y : Int)] (0, 0) _ rfl HRP.out.1 Try.underlying27 rfl (by kernel_rfl)
            | succ gk =>
              have hlt : (i : Int) < (f.bs.length : Int) := by omega
              have hltn : i < f.bs.length := by omega
              by_cases he : t'.err = 0
              case neg =>
                have d0 : (t'.err == 0) = false := by simp [he]
                have HE : Hid (P = p') := by show P = p'; rw [← HT.out, cP_err he]; exact Int.add_zero _
                clear HT he
                have HDF : Hid (costE l = ⟨fb + gb, fi + gi, p', y⟩) := by show _ = _; rw [HDE.out, HE.out]
                obtain ⟨y0, y1, y2, y3, z0, z1, z2, z3, qq0, qq1, qq2, qq3, r0, r1, r2, r3⟩ := HL.out.x.cells
                have HRP := Lib.hid (HL.out.x.fin (.int .i64 (fb + gb)) (.int .i64 (fi + gi)) (.int .i64 p') (.int .i64 (y : Int)))
                go_wp2
                (try simp only [Exit.inBlock, Exit.then])
                refine bodyPost_ret (v := .agg #[.int .i64 (fb + gb), .int .i64 (fi + gi), .int .i64 p', .int .i64 (y : Int)]) ?_ rfl (ROfP.of HDF.out HRP.out.2)
                exact results_cell_row rfl _ _ w.heap.size 27 #[.int .i64 (fb + gb), .int .i64 (fi + gi), .int .i64 p', .int .i64 (y : Int)] (0, 0) _ rfl HRP.out.1 Try.underlying27 rfl (by kernel_rfl)
              have d0 : (t'.err == 0) = true := by simp [he]
              have hkr := cntE_rng (k := 2) (s := t')
              have HT2 : Hid (p' + ((cntE 2 t').1 + cP f.regs gg.regs gg.slots gk (tot + (cntE 2 t').1) (ivE f.regs gg.regs gg.slots tot t').2) = P) := by
                show _ = P
                rw [← HT.out]
                show _ = p' + (if t'.err ≠ 0 then 0 else _)
                rw [if_neg (fun hh => hh he)]
              have hle : p' + (cntE 2 t').1 ≤ P := by
                have := cP_nn (vr := f.regs) (r := gg.regs) (n := gg.slots) gk (tot + (cntE 2 t').1) (ivE f.regs gg.regs gg.slots tot t').2
                have := HT2.out
                omega
              have HOV : Hid (1048576 < tot + (cntE 2 t').1 → (ivE f.regs gg.regs gg.slots tot t').2.err ≠ 0) := fun h => iv_over21 h
              have HBD : Hid ((cntE 2 t').2.err ≠ 0 → (ivE f.regs gg.regs gg.slots tot t').2.err ≠ 0) := fun h => iv_bad21 h
              have HG1 : Hid (¬ 1048576 < tot + (cntE 2 t').1 → (getE19 f.regs gg.regs gg.slots 1 t').2 = (ivE f.regs gg.regs gg.slots tot t').2) := fun h => getE19_one21 he h (by omega)
              have C2 := Lib.hid (rcnt18_any 2 (by omega) HL.out.ip HL.out.le)
              obtain ⟨u, hu⟩ : ∃ u, (ivE f.regs gg.regs gg.slots tot t').2 = u := ⟨_, rfl⟩
              obtain ⟨⟨kn, s2⟩, hk⟩ : ∃ y, cntE 2 t' = y := ⟨_, rfl⟩
              rw [hu, hk] at HT2 HOV HG1
              rw [hk, hu] at HBD
              rw [hk] at C2 hkr hle
              dsimp only at HT2 HOV HG1 HBD C2 hkr hle
              clear HT he hu hk
              go_wp2_with fail
              refine C2.out.mono ?_
              rintro e W3 ⟨A4, c4, rfl, hI, hb⟩
              have HL3 := Lib.hid (HL.out.next hb)
              clear C2 HL hI hb v2 q0 q1
              go_upto_region 38 with fail
              have hal := (Below.refl W3.heap.size W3).alloc (Nat.le_refl _) (.cells #[.slice A4 s2.rest.length c4, .int .i64 s2.err] 55)
              have HL4 := Lib.hid (HL3.out.next hal)
              have RO := Lib.hid (Row.new W3 55 #[.slice A4 s2.rest.length c4, .int .i64 s2.err])
              have hz20 : w.heap.size + 1 ≠ W3.heap.size := by have := HL3.out.lo; have := HL3.out.le; omega
              generalize (W3.alloc (.cells #[.slice A4 s2.rest.length c4, .int .i64 s2.err] 55)) = W4 at *
              obtain ⟨z20, hz⟩ : ∃ z, W3.heap.size = z := ⟨_, rfl⟩
              rw [hz] at RO hz20 ⊢
              clear hal HL3 hz
              obtain ⟨y0, y1, y2, y3, z0, z1, z2, z3, qq0, qq1, qq2, qq3, r0, r1, r2, r3⟩ := HL4.out.x.cells
              go_upto_region 39 with fail
              have HL5 := Lib.hid (HL4.out.setp (p' + kn))
              have RO5 := Lib.hid (RO.out.far (q := ⟨w.heap.size + 1, 2, none⟩) (fun h => hz20 h.symm) (.int .i64 (p' + kn)))
              clear HL4 RO y0 y1 y2 y3 z0 z1 z2 z3 qq0 qq1 qq2 qq3 r0 r1 r2 r3
              generalize (W4.setCell ⟨w.heap.size + 1, 2, none⟩ (.int .i64 (p' + kn))) = W5 at *
              by_cases hov : 1048576 < tot + kn
              · have HE : Hid (P = p' + kn) := by show P = _; rw [← HT2.out, cP_err (HOV.out hov)]; omega
                clear HT2 HOV HBD HG1
                have HDF : Hid (costE l = ⟨fb + gb, fi + gi, (p' + kn), y⟩) := by show _ = _; rw [HDE.out, HE.out]
                obtain ⟨y0, y1, y2, y3, z0, z1, z2, z3, qq0, qq1, qq2, qq3, r0, r1, r2, r3⟩ := HL5.out.x.cells
                have HRP := Lib.hid (HL5.out.x.fin (.int .i64 (fb + gb)) (.int .i64 (fi + gi)) (.int .i64 (p' + kn)) (.int .i64 (y : Int)))
                go_wp2
                (try simp only [Exit.inBlock, Exit.then])
                refine bodyPost_ret (v := .agg #[.int .i64 (fb + gb), .int .i64 (fi + gi), .int .i64 (p' + kn), .int .i64 (y : Int)]) ?_ rfl (ROfP.of HDF.out HRP.out.2)
                exact results_cell_row rfl _ _ w.heap.size 27 #[.int .i64 (fb + gb), .int .i64 (fi + gi), .int .i64 (p' + kn), .int .i64 (y : Int)] (0, 0) _ rfl HRP.out.1 Try.underlying27 rfl (by kernel_rfl)
              have o1 := RO5.out.k1
              by_cases hs : s2.err = 0
              case neg =>
                have d2 : (s2.err != 0) = true := by simp [hs]
                have HE : Hid (P = p' + kn) := by show P = _; rw [← HT2.out, cP_err (HBD.out hs)]; omega
                clear HT2 HOV HBD HG1 hs
                have HDF : Hid (costE l = ⟨fb + gb, fi + gi, (p' + kn), y⟩) := by show _ = _; rw [HDE.out, HE.out]
                obtain ⟨y0, y1, y2, y3, z0, z1, z2, z3, qq0, qq1, qq2, qq3, r0, r1, r2, r3⟩ := HL5.out.x.cells
                have HRP := Lib.hid (HL5.out.x.fin (.int .i64 (fb + gb)) (.int .i64 (fi + gi)) (.int .i64 (p' + kn)) (.int .i64 (y : Int)))
                go_wp2
                (try simp only [Exit.inBlock, Exit.then])
                refine bodyPost_ret (v := .agg #[.int .i64 (fb + gb), .int .i64 (fi + gi), .int .i64 (p' + kn), .int .i64 (y : Int)]) ?_ rfl (ROfP.of HDF.out HRP.out.2)
                exact results_cell_row rfl _ _ w.heap.size 27 #[.int .i64 (fb + gb), .int .i64 (fi + gi), .int .i64 (p' + kn), .int .i64 (y : Int)] (0, 0) _ rfl HRP.out.1 Try.underlying27 rfl (by kernel_rfl)
              have d2 : (s2.err != 0) = false := by simp [hs]
              have C4 := Lib.hid (rget19_any HL5.out.ip HL5.out.le (m := 1) (vr := f.regs) (r := gg.regs) (n := gg.slots) (by decide) (by omega) (by omega) (by omega))
              rw [show ((1 : Int).toNat) = 1 from rfl, HG1.out (by omega)] at C4
              generalize (getE19 f.regs gg.regs gg.slots 1 t').1 = xs9 at *
              clear HOV HBD HG1 hs
              have q0 := HL5.out.bx.k0; have q1 := HL5.out.bx.k1
              have w1 := HL5.out.r7.k1; have x1 := HL5.out.r8.k1; have x2 := HL5.out.r8.k2
              go_wp2_with fail
              refine C4.out.mono ?_
              rintro e W6 ⟨v9, vs9, A9, c9, rfl, _, hI, hb⟩
              have HL6 := Lib.hid (HL5.out.inpt hI hb)
              have HFn := Lib.hid (HL5.out.next hb)
              clear C4 HL5 RO5 hI hb q0 q1 w1 x1 x2 o1
              have q0 := HFn.out.bx.k0; have q1 := HFn.out.bx.k1
              have qf0 := HFn.out.bx.frozen 0; have qf1 := HFn.out.bx.frozen 1
              go_wp2
              clear q0 q1 qf0 qf1 HFn
              go_roundg gk
              case measure => omega
              case rel => exact ⟨i + 1, tot + kn, p' + kn, A9, c9, u, by omega, rfl, rfl, by omega, by omega, by omega, by show _ = P; rw [← HT2.out]; omega, HL6.out⟩

end Go.Proofs.Ytkapmfopfddmbaa
