/-
  What encoding and decoding a certificate leave in memory.
-/
import Derived.Test.YtkapmfopfddmbaaGreatPk28
import Derived.Test.YtkapmfopfddmbaaGreatCkVal
import Derived.Test.YtkapmfopfddmbaaGreatPk18
import Derived.Test.YtkapmfopfddmbaaGreatSrcCopy
import Derived.Test.YtkapmfopfddmbaaGreatMacCopy
namespace Go.Proofs.YtkapmfopfddmbaaGreat
open Go.RowKit
set_option linter.unusedVariables false

theorem results_row_tmp {P : Program} {fn : Func} {t p : Tmp} {ty : TypeId} (h : fn.results = #[.cell p ty, .tmp t]) (tmps : Array Value) (w : World) (g : Nat) (T : TypeId) (cs : Array Value) (fr : Nat × Nat) (d : TypeDesc) {v : Value} (hv : tmps.getD t undef = v)
    (hp : tmps.getD p undef = .pointer (some ⟨g, 0, none⟩)) (hg : w.heap[g]? = some (.cells cs T fr))
    (hu : P.underlying ty = some d) (hd : (match d with | .struct _ | .array _ _ => true | _ => false) = true) (hi : (P.info? ty).map (·.size) = some cs.size) :
    (results fn tmps).run P w = .ok (.tuple #[.agg cs, v]) w := by
  subst hv
  have hp' : tmps[p]?.getD undef = .pointer (some ⟨g, 0, none⟩) := by simpa using hp
  simp [results, h, hp', asAddr, run_loadVar_row w g T ty cs fr d hg hu hd hi, Result.andThen]

/-- Eight stores. -/
def put8c (W : World) (p : Nat) (a0 a1 a2 a3 a4 a5 a6 a7 : Value) : World :=
  ((((((((W.setCell ⟨p, 0, none⟩ a0).setCell ⟨p, 1, none⟩ a1).setCell ⟨p, 2, none⟩ a2).setCell ⟨p, 3, none⟩ a3).setCell ⟨p, 4, none⟩ a4).setCell ⟨p, 5, none⟩ a5).setCell ⟨p, 6, none⟩ a6).setCell ⟨p, 7, none⟩ a7)

theorem Row.put8c {W : World} {p : Nat} {T : TypeId} {z0 z1 z2 z3 z4 z5 z6 z7 : Value} (h : Row W p T #[z0, z1, z2, z3, z4, z5, z6, z7]) (a0 a1 a2 a3 a4 a5 a6 a7 : Value) : Row (put8c W p a0 a1 a2 a3 a4 a5 a6 a7) p T #[a0, a1, a2, a3, a4, a5, a6, a7] := by
  unfold Proofs.YtkapmfopfddmbaaGreat.put8c
  have q0 : Row _ p T #[a0, z1, z2, z3, z4, z5, z6, z7] := h.put 0 a0
  have q1 : Row _ p T #[a0, a1, z2, z3, z4, z5, z6, z7] := q0.put 1 a1
  have q2 : Row _ p T #[a0, a1, a2, z3, z4, z5, z6, z7] := q1.put 2 a2
  have q3 : Row _ p T #[a0, a1, a2, a3, z4, z5, z6, z7] := q2.put 3 a3
  have q4 : Row _ p T #[a0, a1, a2, a3, a4, z5, z6, z7] := q3.put 4 a4
  have q5 : Row _ p T #[a0, a1, a2, a3, a4, a5, z6, z7] := q4.put 5 a5
  have q6 : Row _ p T #[a0, a1, a2, a3, a4, a5, a6, z7] := q5.put 6 a6
  exact q6.put 7 a7

theorem mods8c (W : World) (p : Nat) (a0 a1 a2 a3 a4 a5 a6 a7 : Value) : Mods (Is p) W (put8c W p a0 a1 a2 a3 a4 a5 a6 a7) :=
  ((((((((Mods.refl _ W).put 0 a0).put 1 a1).put 2 a2).put 3 a3).put 4 a4).put 5 a5).put 6 a6).put 7 a7

/-- What Encode leaves: bytes of one's own, or the error. -/
def EncP (w : World) (c : Ct) (e : Ending) (w' : World) : Prop :=
  Below w.heap.size w w' ∧ ((validC c = 0 ∧ ∃ A k, e = .returned (.tuple #[.slice A (encCt c).length k, .int .i64 0]) ∧ w'.ownsRow w.heap.size 5 1 (.slice A (encCt c).length k) (encCt c).length (bts (encCt c))) ∨
    (validC c ≠ 0 ∧ e = .returned (.tuple #[.slice none 0 0, .int .i64 (validC c)])))

/-- What Decode leaves: a certificate of one's own, and the error. -/
def DecP (w : World) (r : Ct × Int) (e : Ending) (w' : World) : Prop :=
  ∃ Av1 cv1 vs1 Av2 cv2 vs2 Av3 cv3 vs3, e = .returned (.tuple #[.agg #[.int .i64 r.1.sa, .int .i64 r.1.sr, .slice Av1 r.1.bs.length cv1, .int .i64 r.1.ta, .int .i64 r.1.tr, .int .i64 r.1.ts, .slice Av2 r.1.ms.length cv2, .slice Av3 r.1.inv.length cv3], .int .i64 r.2]) ∧
    NestV bshp w' w.heap.size (.slice Av1 r.1.bs.length cv1) vs1 r.1.bs ∧ NestV mshp w' w.heap.size (.slice Av2 r.1.ms.length cv2) vs2 r.1.ms ∧ NestV pshp w' w.heap.size (.slice Av3 r.1.inv.length cv3) vs3 r.1.inv ∧ Below w.heap.size w w'

/-- Decoding ends by an error. -/
theorem DecP.bad {w W : World} (hb : Below w.heap.size w W) (x : Int) : DecP w (zCt, x) (.returned (.tuple #[.agg #[.int .i64 0, .int .i64 0, .slice none 0 0, .int .i64 0, .int .i64 0, .int .i64 0, .slice none 0 0, .slice none 0 0], .int .i64 x])) W :=
  ⟨none, 0, [], none, 0, [], none, 0, [], rfl, NestV.nil _ _, NestV.nil _ _, NestV.nil _ _, hb⟩

/-- The inputs of a walk over Decode. -/
structure RDC (w : World) (A : Option Addr) (l : List Nat) (W : World) : Prop where
  blw : Below w.heap.size w W
  z : Row W w.heap.size 30 #[.int .i64 0, .int .i64 0, .slice none 0 0, .int .i64 0, .int .i64 0, .int .i64 0, .slice none 0 0, .slice none 0 0]
  y : Row W (w.heap.size + 1) 30 #[.int .i64 0, .int .i64 0, .slice none 0 0, .int .i64 0, .int .i64 0, .int .i64 0, .slice none 0 0, .slice none 0 0]
  see : Sees W w.heap.size A (bts l)

theorem RDC.next {w W W' : World} {A : Option Addr} {l : List Nat} (h : RDC w A l W) (hb : Below W.heap.size W W') : RDC w A l W' :=
  ⟨h.blw.trans (hb.mono h.blw.size), h.z.below hb h.z.lt, h.y.below hb h.y.lt, h.see.below (hb.mono h.blw.size)⟩

theorem RDC.start {w : World} {A : Option Addr} {l : List Nat} (h : Sees w w.heap.size A (bts l)) : RDC w A l ((w.alloc (.cells #[.int .i64 0, .int .i64 0, .slice none 0 0, .int .i64 0, .int .i64 0, .int .i64 0, .slice none 0 0, .slice none 0 0] 30)).alloc (.cells #[.int .i64 0, .int .i64 0, .slice none 0 0, .int .i64 0, .int .i64 0, .int .i64 0, .slice none 0 0, .slice none 0 0] 30)) := by
  have hb : Below w.heap.size w ((w.alloc (.cells #[.int .i64 0, .int .i64 0, .slice none 0 0, .int .i64 0, .int .i64 0, .int .i64 0, .slice none 0 0, .slice none 0 0] 30)).alloc (.cells #[.int .i64 0, .int .i64 0, .slice none 0 0, .int .i64 0, .int .i64 0, .int .i64 0, .slice none 0 0, .slice none 0 0] 30)) := ((Below.refl w.heap.size w).alloc (Nat.le_refl _) _).alloc (by simp) _
  have hy := Row.new (w.alloc (.cells #[.int .i64 0, .int .i64 0, .slice none 0 0, .int .i64 0, .int .i64 0, .int .i64 0, .slice none 0 0, .slice none 0 0] 30)) 30 #[.int .i64 0, .int .i64 0, .slice none 0 0, .int .i64 0, .int .i64 0, .int .i64 0, .slice none 0 0, .slice none 0 0]
  rw [show (w.alloc (.cells #[.int .i64 0, .int .i64 0, .slice none 0 0, .int .i64 0, .int .i64 0, .int .i64 0, .slice none 0 0, .slice none 0 0] 30)).heap.size = w.heap.size + 1 by simp] at hy
  exact ⟨hb, (Row.new w _ _).alloc _, hy, h.below hb⟩

/-- The result has been stored. -/
theorem RDC.put {w W : World} {A : Option Addr} {l : List Nat} (h : RDC w A l W) (a0 a1 a2 a3 a4 a5 a6 a7 : Value) : Row (put8c W w.heap.size a0 a1 a2 a3 a4 a5 a6 a7) w.heap.size 30 #[a0, a1, a2, a3, a4, a5, a6, a7] ∧ Below w.heap.size w (put8c W w.heap.size a0 a1 a2 a3 a4 a5 a6 a7) :=
  ⟨Row.put8c h.z _ _ _ _ _ _ _ _, h.blw.trans ((mods8c W w.heap.size a0 a1 a2 a3 a4 a5 a6 a7).below h.blw.size fun k hk => by unfold Is at hk; omega)⟩

end Go.Proofs.YtkapmfopfddmbaaGreat
