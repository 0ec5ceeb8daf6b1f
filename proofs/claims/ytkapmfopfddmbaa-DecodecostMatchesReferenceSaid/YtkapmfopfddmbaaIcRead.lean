/-
  The reference of layer 17: read, an instruction behind its opcode (its text is made by wip/lab/genicread.py).
-/
import Derived.Test.YtkapmfopfddmbaaPk4
import Derived.Test.YtkapmfopfddmbaaPk3
import Derived.Test.YtkapmfopfddmbaaPk1
namespace Go.Proofs.Ytkapmfopfddmbaa
open Go.RowKit
set_option linter.unusedVariables false
set_option linter.unusedSimpArgs false

/-- What read carries: the input in its box, the two results' blocks, the instruction. -/
structure RdS (w : World) (B : Nat) (m : Mi) (t : Ip) (A : Option Addr) (c : Nat) (W : World) : Prop where
  blw : Below w.heap.size w W
  inp : Row W w.heap.size 55 #[.slice A t.rest.length c, .int .i64 t.err]
  z8 : Row W (w.heap.size + 1) 97 #[.int .i64 0, .int .i64 0, .int .i64 0, .int .i64 0, .int .i64 0, .int .i64 0, .int .i64 0]
  z9 : Row W (w.heap.size + 1 + 1) 55 #[.slice none 0 0, .int .i64 0]
  im : Row W (w.heap.size + 1 + 1 + 1) 97 #[.int .i64 m.op, .int .i64 m.d, .int .i64 m.a, .int .i64 m.b, .int .i64 m.imm, .int .i64 m.dst, .int .i64 m.src]
  ip : IpV W B A c t

theorem numE_rng {bd why : Int} {s : Ip} (hb : 0 < bd) : 0 ≤ (numE bd why s).1 ∧ (numE bd why s).1 < bd := by
  unfold numE
  split
  · exact ⟨Int.le_refl _, hb⟩
  · split
    · exact ⟨Int.le_refl _, hb⟩
    · split
      · exact ⟨Int.le_refl _, hb⟩
      · exact ⟨by dsimp only; omega, by dsimp only; omega⟩

theorem locE_rng {r n : Int} {s : Ip} : 0 ≤ (locE r n s).1 ∧ (locE r n s).1 < 4611686018427387904 := by
  unfold locE
  split
  · exact ⟨by decide, by decide⟩
  · exact numE_rng (by decide)

theorem locE_err {r n : Int} {s : Ip} (h : s.err ≠ 0) : locE r n s = (0, s) := by
  unfold locE
  rw [numE_err h, if_neg fun hh => h hh.1]

theorem olocE_true {r n : Int} {s : Ip} : olocE true r n s = locE r n s := by
  unfold olocE
  by_cases h : s.err = 0
  · rw [if_pos ⟨rfl, h⟩]
  · rw [if_neg fun hh => h hh.2, locE_err h]

theorem readE_i {op r n : Int} {s x : Ip} (h : (iE op r s).2 = x) (hx : x.err ≠ 0) : readE op r n s = (Mi0, x) := by
  have h5 : xE op r n s = (0, x) := by unfold xE; rw [h, olocE_err hx]
  have h6 : yE op r n s = (0, x) := by unfold yE; rw [h5]; exact olocE_err hx
  have h7 : zE op r n s = x := by unfold zE; rw [h6]; exact twoE_err hx
  unfold readE
  rw [h7, if_pos hx]

theorem Row.put7i {W : World} {p : Nat} {T : TypeId} {z0 z1 z2 z3 z4 z5 z6 : Value} (h : Row W p T #[z0, z1, z2, z3, z4, z5, z6]) (a0 a1 a2 a3 a4 a5 a6 : Value) :
    Row (((((((W.setCell ⟨p, 0, none⟩ a0).setCell ⟨p, 1, none⟩ a1).setCell ⟨p, 2, none⟩ a2).setCell ⟨p, 3, none⟩ a3).setCell ⟨p, 4, none⟩ a4).setCell ⟨p, 5, none⟩ a5).setCell ⟨p, 6, none⟩ a6) p T #[a0, a1, a2, a3, a4, a5, a6] := by
  have q0 : Row _ p T #[a0, z1, z2, z3, z4, z5, z6] := h.put 0 a0
  have q1 : Row _ p T #[a0, a1, z2, z3, z4, z5, z6] := q0.put 1 a1
  have q2 : Row _ p T #[a0, a1, a2, z3, z4, z5, z6] := q1.put 2 a2
  have q3 : Row _ p T #[a0, a1, a2, a3, z4, z5, z6] := q2.put 3 a3
  have q4 : Row _ p T #[a0, a1, a2, a3, a4, z5, z6] := q3.put 4 a4
  have q5 : Row _ p T #[a0, a1, a2, a3, a4, a5, z6] := q4.put 5 a5
  exact q5.put 6 a6

theorem mods7i (W : World) (p : Nat) (a0 a1 a2 a3 a4 a5 a6 : Value) : Mods (Is p) W (((((((W.setCell ⟨p, 0, none⟩ a0).setCell ⟨p, 1, none⟩ a1).setCell ⟨p, 2, none⟩ a2).setCell ⟨p, 3, none⟩ a3).setCell ⟨p, 4, none⟩ a4).setCell ⟨p, 5, none⟩ a5).setCell ⟨p, 6, none⟩ a6) :=
  (((((((Mods.refl _ W).put 0 a0).put 1 a1).put 2 a2).put 3 a3).put 4 a4).put 5 a5).put 6 a6

section
variable {w W W' : World} {B : Nat} {m m' : Mi} {t t' : Ip} {A A' : Option Addr} {c c' : Nat}

theorem RdS.lo (h : RdS w B m t A c W) : w.heap.size + 1 + 1 + 1 < W.heap.size := h.im.lt

theorem RdS.next (h : RdS w B m t A c W) (hb : Below W.heap.size W W') (hB : B ≤ W.heap.size := by omega) : RdS w B m t A c W' :=
  ⟨h.blw.trans (hb.mono h.blw.size), h.inp.below hb h.inp.lt, h.z8.below hb h.z8.lt, h.z9.below hb h.z9.lt, h.im.below hb h.im.lt, h.ip.below (hb.mono hB)⟩

/-- The input has changed. -/
theorem RdS.inpt (h : RdS w B m t A c W) (hb : Below W.heap.size W W') (hI : IpV W' B A' c' t') (hB : B ≤ w.heap.size) : RdS w B m t' A' c' ((W'.setCell ⟨w.heap.size, 0, none⟩ (.slice A' t'.rest.length c')).setCell ⟨w.heap.size, 1, none⟩ (.int .i64 t'.err)) := by
  have hz := h.lo
  have hbz := hb.size
  have hw : Below w.heap.size W' ((W'.setCell ⟨w.heap.size, 0, none⟩ (.slice A' t'.rest.length c')).setCell ⟨w.heap.size, 1, none⟩ (.int .i64 t'.err)) := ((Below.refl _ W').setCell (p := ⟨w.heap.size, 0, none⟩) (Nat.le_refl _) _).setCell (p := ⟨w.heap.size, 1, none⟩) (Nat.le_refl _) _
  refine ⟨(h.blw.trans (hb.mono h.blw.size)).trans hw, ?_, ?_, ?_, ?_, hI.below (hw.mono hB)⟩
  · exact ((h.inp.below hb h.inp.lt).put 0 (.slice A' t'.rest.length c')).put 1 (.int .i64 t'.err)
  · exact ((h.z8.below hb h.z8.lt).far (q := ⟨w.heap.size, 0, none⟩) (by show _ ≠ w.heap.size; omega) _).far (q := ⟨w.heap.size, 1, none⟩) (by show _ ≠ w.heap.size; omega) _
  · exact ((h.z9.below hb h.z9.lt).far (q := ⟨w.heap.size, 0, none⟩) (by show _ ≠ w.heap.size; omega) _).far (q := ⟨w.heap.size, 1, none⟩) (by show _ ≠ w.heap.size; omega) _
  · exact ((h.im.below hb h.im.lt).far (q := ⟨w.heap.size, 0, none⟩) (by show _ ≠ w.heap.size; omega) _).far (q := ⟨w.heap.size, 1, none⟩) (by show _ ≠ w.heap.size; omega) _

/-- A field of the instruction is stored. -/
theorem RdS.fld (h : RdS w B m t A c W) (k : Nat) (u : Value) (m' : Mi) (e : (#[.int .i64 m.op, .int .i64 m.d, .int .i64 m.a, .int .i64 m.b, .int .i64 m.imm, .int .i64 m.dst, .int .i64 m.src] : Array Value).setIfInBounds k u = #[.int .i64 m'.op, .int .i64 m'.d, .int .i64 m'.a, .int .i64 m'.b, .int .i64 m'.imm, .int .i64 m'.dst, .int .i64 m'.src]) (hB : B ≤ w.heap.size) : RdS w B m' t A c (W.setCell ⟨w.heap.size + 1 + 1 + 1, k, none⟩ u) := by
  have hw : Below w.heap.size W (W.setCell ⟨w.heap.size + 1 + 1 + 1, k, none⟩ u) := (Below.refl _ W).setCell (p := ⟨w.heap.size + 1 + 1 + 1, k, none⟩) (by show _ ≤ w.heap.size + 1 + 1 + 1; omega) u
  have hp := h.im.put k u
  rw [e] at hp
  exact ⟨h.blw.trans hw, h.inp.far (by show _ ≠ w.heap.size + 1 + 1 + 1; omega) u, h.z8.far (by show _ ≠ w.heap.size + 1 + 1 + 1; omega) u, h.z9.far (by show _ ≠ w.heap.size + 1 + 1 + 1; omega) u, hp, h.ip.below (hw.mono hB)⟩

theorem RdS.step (h : RdS w B m t A c W) (hb : Below W.heap.size W W') (hI : IpV W' B A' c' t') (k : Nat) (u : Value) (m' : Mi) (e : (#[.int .i64 m.op, .int .i64 m.d, .int .i64 m.a, .int .i64 m.b, .int .i64 m.imm, .int .i64 m.dst, .int .i64 m.src] : Array Value).setIfInBounds k u = #[.int .i64 m'.op, .int .i64 m'.d, .int .i64 m'.a, .int .i64 m'.b, .int .i64 m'.imm, .int .i64 m'.dst, .int .i64 m'.src]) (hB : B ≤ w.heap.size := by exact HBB.out) : RdS w B m' t' A' c' (((W'.setCell ⟨w.heap.size + 1 + 1 + 1, k, none⟩ u).setCell ⟨w.heap.size, 0, none⟩ (.slice A' t'.rest.length c')).setCell ⟨w.heap.size, 1, none⟩ (.int .i64 t'.err)) := by
  have h1 := (h.next hb (by have := h.blw.size; omega)).fld k u m' e hB
  have hw : Below w.heap.size W' (W'.setCell ⟨w.heap.size + 1 + 1 + 1, k, none⟩ u) := (Below.refl _ W').setCell (p := ⟨w.heap.size + 1 + 1 + 1, k, none⟩) (by show _ ≤ w.heap.size + 1 + 1 + 1; omega) u
  exact h1.inpt (Below.refl _ _) (hI.below (hw.mono hB)) hB

theorem RdS.rst (h : RdS w B m t A c W) (hI : IpV W B A' c' t') (he : t'.err = t.err) (hB : B ≤ w.heap.size) : RdS w B m t' A' c' (W.setCell ⟨w.heap.size, 0, none⟩ (.slice A' t'.rest.length c')) := by
  have hw : Below w.heap.size W (W.setCell ⟨w.heap.size, 0, none⟩ (.slice A' t'.rest.length c')) := (Below.refl _ W).setCell (p := ⟨w.heap.size, 0, none⟩) (Nat.le_refl _) _
  have hp := h.inp.put 0 (.slice A' t'.rest.length c')
  refine ⟨h.blw.trans hw, ?_, h.z8.far (by show _ ≠ w.heap.size; omega) _, h.z9.far (by show _ ≠ w.heap.size; omega) _, h.im.far (by show _ ≠ w.heap.size; omega) _, hI.below (hw.mono hB)⟩
  rw [he]
  exact hp

/-- Both results stored. -/
theorem RdS.fin (h : RdS w B m t A c W) (m' : Mi) (t' : Ip) (A' : Option Addr) (c' : Nat) (hI : IpV W B A' c' t') (hB : B ≤ w.heap.size) :
    Row (((((((((W.setCell ⟨w.heap.size + 1, 0, none⟩ (.int .i64 m'.op)).setCell ⟨w.heap.size + 1, 1, none⟩ (.int .i64 m'.d)).setCell ⟨w.heap.size + 1, 2, none⟩ (.int .i64 m'.a)).setCell ⟨w.heap.size + 1, 3, none⟩ (.int .i64 m'.b)).setCell ⟨w.heap.size + 1, 4, none⟩ (.int .i64 m'.imm)).setCell ⟨w.heap.size + 1, 5, none⟩ (.int .i64 m'.dst)).setCell ⟨w.heap.size + 1, 6, none⟩ (.int .i64 m'.src)).setCell ⟨w.heap.size + 1 + 1, 0, none⟩ (.slice A' t'.rest.length c')).setCell ⟨w.heap.size + 1 + 1, 1, none⟩ (.int .i64 t'.err)) (w.heap.size + 1) 97 #[.int .i64 m'.op, .int .i64 m'.d, .int .i64 m'.a, .int .i64 m'.b, .int .i64 m'.imm, .int .i64 m'.dst, .int .i64 m'.src] ∧
    Row (((((((((W.setCell ⟨w.heap.size + 1, 0, none⟩ (.int .i64 m'.op)).setCell ⟨w.heap.size + 1, 1, none⟩ (.int .i64 m'.d)).setCell ⟨w.heap.size + 1, 2, none⟩ (.int .i64 m'.a)).setCell ⟨w.heap.size + 1, 3, none⟩ (.int .i64 m'.b)).setCell ⟨w.heap.size + 1, 4, none⟩ (.int .i64 m'.imm)).setCell ⟨w.heap.size + 1, 5, none⟩ (.int .i64 m'.dst)).setCell ⟨w.heap.size + 1, 6, none⟩ (.int .i64 m'.src)).setCell ⟨w.heap.size + 1 + 1, 0, none⟩ (.slice A' t'.rest.length c')).setCell ⟨w.heap.size + 1 + 1, 1, none⟩ (.int .i64 t'.err)) (w.heap.size + 1 + 1) 55 #[.slice A' t'.rest.length c', .int .i64 t'.err] ∧
    Below w.heap.size W (((((((((W.setCell ⟨w.heap.size + 1, 0, none⟩ (.int .i64 m'.op)).setCell ⟨w.heap.size + 1, 1, none⟩ (.int .i64 m'.d)).setCell ⟨w.heap.size + 1, 2, none⟩ (.int .i64 m'.a)).setCell ⟨w.heap.size + 1, 3, none⟩ (.int .i64 m'.b)).setCell ⟨w.heap.size + 1, 4, none⟩ (.int .i64 m'.imm)).setCell ⟨w.heap.size + 1, 5, none⟩ (.int .i64 m'.dst)).setCell ⟨w.heap.size + 1, 6, none⟩ (.int .i64 m'.src)).setCell ⟨w.heap.size + 1 + 1, 0, none⟩ (.slice A' t'.rest.length c')).setCell ⟨w.heap.size + 1 + 1, 1, none⟩ (.int .i64 t'.err)) := by
  have h8 := h.z8.put7i (.int .i64 m'.op) (.int .i64 m'.d) (.int .i64 m'.a) (.int .i64 m'.b) (.int .i64 m'.imm) (.int .i64 m'.dst) (.int .i64 m'.src)
  have hm := mods7i W (w.heap.size + 1) (.int .i64 m'.op) (.int .i64 m'.d) (.int .i64 m'.a) (.int .i64 m'.b) (.int .i64 m'.imm) (.int .i64 m'.dst) (.int .i64 m'.src)
  have h9 := h.z9.mods hm (fun e => by have : w.heap.size + 1 + 1 = w.heap.size + 1 := e; omega)
  have hw := hm.below (B := w.heap.size) h.blw.size (fun k hk => by have : k = w.heap.size + 1 := hk; omega)
  refine ⟨(h8.far (q := ⟨w.heap.size + 1 + 1, 0, none⟩) (by show _ ≠ w.heap.size + 1 + 1; omega) _).far (q := ⟨w.heap.size + 1 + 1, 1, none⟩) (by show _ ≠ w.heap.size + 1 + 1; omega) _, ?_, (hw.setCell (p := ⟨w.heap.size + 1 + 1, 0, none⟩) (by show _ ≤ w.heap.size + 1 + 1; omega) _).setCell (p := ⟨w.heap.size + 1 + 1, 1, none⟩) (by show _ ≤ w.heap.size + 1 + 1; omega) _⟩
  exact (h9.put 0 (.slice A' t'.rest.length c')).put 1 (.int .i64 t'.err)

end

/-- What the reference's readings of instructions return. -/
def RQM (w : World) (B : Nat) (m : Mi) (t : Ip) (e : Ending) (w' : World) : Prop :=
  ∃ A' c', e = .returned (.tuple #[.agg #[.int .i64 m.op, .int .i64 m.d, .int .i64 m.a, .int .i64 m.b, .int .i64 m.imm, .int .i64 m.dst, .int .i64 m.src], .agg #[.slice A' t.rest.length c', .int .i64 t.err]]) ∧ IpV w' B A' c' t ∧ Below w.heap.size w w'

set_option maxRecDepth 100000 in
set_option maxHeartbeats 16000000 in
theorem rread_any {w : World} {B : Nat} {A : Option Addr} {c : Nat} {s : Ip} (op r n : Int) (h : IpV w B A c s) (hB : B ≤ w.heap.size) (hr : 0 ≤ r ∧ r ≤ 4611686018427387904) :
    Calls Try.prog 67 #[.agg #[.slice A s.rest.length c, .int .i64 s.err], .int .i64 op, .int .i64 r, .int .i64 n] w (RQM w B (readE op r n s).1 (readE op r n s).2) := by
  have HBB := Lib.hid hB
  have HS0 : Hid (RdS w B ⟨op, 0, 0, 0, 0, 0, 0⟩ s A c ((((w.alloc (.cells #[.slice A s.rest.length c, .int .i64 s.err] 55)).alloc (.cells #[.int .i64 0, .int .i64 0, .int .i64 0, .int .i64 0, .int .i64 0, .int .i64 0, .int .i64 0] 97)).alloc (.cells #[.slice none 0 0, .int .i64 0] 55)).alloc (.cells #[.int .i64 op, .int .i64 0, .int .i64 0, .int .i64 0, .int .i64 0, .int .i64 0, .int .i64 0] 97))) := by
    have hb1 := (Below.refl w.heap.size w).alloc (Nat.le_refl _) (.cells #[.slice A s.rest.length c, .int .i64 s.err] 55)
    have hb2 := hb1.alloc hb1.size (.cells #[.int .i64 0, .int .i64 0, .int .i64 0, .int .i64 0, .int .i64 0, .int .i64 0, .int .i64 0] 97)
    have hb3 := hb2.alloc hb2.size (.cells #[.slice none 0 0, .int .i64 0] 55)
    have hb4 := hb3.alloc hb3.size (.cells #[.int .i64 op, .int .i64 0, .int .i64 0, .int .i64 0, .int .i64 0, .int .i64 0, .int .i64 0] 97)
    have q1 := (((Row.new w 55 #[.slice A s.rest.length c, .int .i64 s.err]).alloc (.cells #[.int .i64 0, .int .i64 0, .int .i64 0, .int .i64 0, .int .i64 0, .int .i64 0, .int .i64 0] 97)).alloc (.cells #[.slice none 0 0, .int .i64 0] 55)).alloc (.cells #[.int .i64 op, .int .i64 0, .int .i64 0, .int .i64 0, .int .i64 0, .int .i64 0, .int .i64 0] 97)
    have q2 := ((Row.new (w.alloc (.cells #[.slice A s.rest.length c, .int .i64 s.err] 55)) 97 #[.int .i64 0, .int .i64 0, .int .i64 0, .int .i64 0, .int .i64 0, .int .i64 0, .int .i64 0]).alloc (.cells #[.slice none 0 0, .int .i64 0] 55)).alloc (.cells #[.int .i64 op, .int .i64 0, .int .i64 0, .int .i64 0, .int .i64 0, .int .i64 0, .int .i64 0] 97)
    have q3 := (Row.new ((w.alloc (.cells #[.slice A s.rest.length c, .int .i64 s.err] 55)).alloc (.cells #[.int .i64 0, .int .i64 0, .int .i64 0, .int .i64 0, .int .i64 0, .int .i64 0, .int .i64 0] 97)) 55 #[.slice none 0 0, .int .i64 0]).alloc (.cells #[.int .i64 op, .int .i64 0, .int .i64 0, .int .i64 0, .int .i64 0, .int .i64 0, .int .i64 0] 97)
    have q4 := Row.new (((w.alloc (.cells #[.slice A s.rest.length c, .int .i64 s.err] 55)).alloc (.cells #[.int .i64 0, .int .i64 0, .int .i64 0, .int .i64 0, .int .i64 0, .int .i64 0, .int .i64 0] 97)).alloc (.cells #[.slice none 0 0, .int .i64 0] 55)) 97 #[.int .i64 op, .int .i64 0, .int .i64 0, .int .i64 0, .int .i64 0, .int .i64 0, .int .i64 0]
    simp only [World.size_alloc] at q2 q3 q4
    exact ⟨hb4, q1, q2, q3, q4, h.below (hb4.mono hB)⟩
  obtain ⟨Y, hY⟩ : ∃ z, z = readE op r n s := ⟨_, rfl⟩
  rw [← hY]
  have HY := Lib.hid hY
  clear h hB hY
  go_enter Try.func67, Try.ntmps67
  go_upto_region 2 with fail
  generalize ((((w.alloc (.cells #[.slice A s.rest.length c, .int .i64 s.err] 55)).alloc (.cells #[.int .i64 0, .int .i64 0, .int .i64 0, .int .i64 0, .int .i64 0, .int .i64 0, .int .i64 0] 97)).alloc (.cells #[.slice none 0 0, .int .i64 0] 55)).alloc (.cells #[.int .i64 op, .int .i64 0, .int .i64 0, .int .i64 0, .int .i64 0, .int .i64 0, .int .i64 0] 97)) = W0 at *
  obtain ⟨ub, hub⟩ : ∃ z, z = uD op := ⟨_, rfl⟩
  have HE : Hid (dE op r s = optE ub r 9 s) := by show _ = _; rw [hub]; rfl
  have CU := Lib.hid fun W => rusesD_any op ub W hub.symm
  clear hub
  go_wp2_with fail
  refine (CU.out _).mono ?_
  rintro e V ⟨rfl, rfl⟩
  clear CU
  go_upto_if 17 with fail
  go_cut [] from 18 to 24 (fun wx => ∃ A c, Hid (RdS w B ⟨op, (dE op r s).1, 0, 0, 0, 0, 0⟩ (dE op r s).2 A c wx))
  case first =>
    cases ub
    · have e9 : dE op r s = (0, s) := HE.out
      go_wp2_with fail
      go_meet
      case rel => exact ⟨A, c, by show RdS _ _ _ _ _ _ _; rw [e9]; exact HS0.out⟩
    · have e9 : dE op r s = numE r 9 s := HE.out
      have n0 := HS0.out.inp.cell 0; have n1 := HS0.out.inp.cell 1
      have nf0 := HS0.out.inp.frozen 0; have nf1 := HS0.out.inp.frozen 1
      have i0 := HS0.out.im.cell 0; have i1 := HS0.out.im.cell 1; have i2 := HS0.out.im.cell 2; have i3 := HS0.out.im.cell 3
      have i4 := HS0.out.im.cell 4; have i5 := HS0.out.im.cell 5; have i6 := HS0.out.im.cell 6
      have jf0 := HS0.out.im.frozen 0; have jf1 := HS0.out.im.frozen 1; have jf2 := HS0.out.im.frozen 2; have jf3 := HS0.out.im.frozen 3
      have jf4 := HS0.out.im.frozen 4; have jf5 := HS0.out.im.frozen 5; have jf6 := HS0.out.im.frozen 6
      simp only [List.getElem?_toArray, List.getElem?_cons_zero, List.getElem?_cons_succ] at n0 n1 i0 i1 i2 i3 i4 i5 i6
      have C := Lib.hid (rnum_any r 9 HS0.out.ip (Nat.le_trans HBB.out HS0.out.blw.size) hr.1 hr.2 (by decide))
      rw [← e9] at C
      obtain ⟨⟨v9, t9⟩, h9⟩ : ∃ z, z = dE op r s := ⟨_, rfl⟩
      rw [← h9] at C
      have H9 := Lib.hid h9
      clear h9 e9 HE
      go_wp2_with fail
      refine C.out.mono ?_
      rintro e V ⟨A9, c9, rfl, hI, hb⟩
      have HN := Lib.hid (HS0.out.step hb hI 1 (.int .i64 v9) ⟨op, v9, 0, 0, 0, 0, 0⟩ rfl)
      clear n0 n1 nf0 nf1 i0 i1 i2 i3 i4 i5 i6 jf0 jf1 jf2 jf3 jf4 jf5 jf6
      have HNX := Lib.hid (HS0.out.next hb (Nat.le_trans HBB.out HS0.out.blw.size))
      clear C hb hI
      have n0 := HNX.out.inp.cell 0; have n1 := HNX.out.inp.cell 1
      have nf0 := HNX.out.inp.frozen 0; have nf1 := HNX.out.inp.frozen 1
      have i0 := HNX.out.im.cell 0; have i1 := HNX.out.im.cell 1; have i2 := HNX.out.im.cell 2; have i3 := HNX.out.im.cell 3
      have i4 := HNX.out.im.cell 4; have i5 := HNX.out.im.cell 5; have i6 := HNX.out.im.cell 6
      have jf0 := HNX.out.im.frozen 0; have jf1 := HNX.out.im.frozen 1; have jf2 := HNX.out.im.frozen 2; have jf3 := HNX.out.im.frozen 3
      have jf4 := HNX.out.im.frozen 4; have jf5 := HNX.out.im.frozen 5; have jf6 := HNX.out.im.frozen 6
      simp only [List.getElem?_toArray, List.getElem?_cons_zero, List.getElem?_cons_succ] at n0 n1 i0 i1 i2 i3 i4 i5 i6
      go_wp2_with fail
      go_meet
      case rel => exact ⟨A9, c9, by show RdS _ _ _ _ _ _ _; rw [← H9.out]; exact HN.out⟩
  case rest =>
    obtain ⟨A, c, HS1⟩ := hcut
    clear HS0 HE
    generalize wc = W1 at *
    obtain ⟨ub, hub⟩ : ∃ z, z = uA op := ⟨_, rfl⟩
    have HE : Hid (aE op r s = optE ub r 9 (dE op r s).2) := by show _ = _; rw [hub]; rfl
    have CU := Lib.hid fun W => rusesA_any op ub W hub.symm
    clear hub
    go_wp2_with fail
    refine (CU.out _).mono ?_
    rintro e V ⟨rfl, rfl⟩
    clear CU
    go_upto_if 26 with fail
    go_cut [] from 27 to 33 (fun wx => ∃ A c, Hid (RdS w B ⟨op, (dE op r s).1, (aE op r s).1, 0, 0, 0, 0⟩ (aE op r s).2 A c wx))
    case first =>
      cases ub
      · have e9 : aE op r s = (0, (dE op r s).2) := HE.out
        go_wp2_with fail
        go_meet
        case rel => exact ⟨A, c, by show RdS _ _ _ _ _ _ _; rw [e9]; exact HS1.out⟩
      · have e9 : aE op r s = numE r 9 (dE op r s).2 := HE.out
        have n0 := HS1.out.inp.cell 0; have n1 := HS1.out.inp.cell 1
        have nf0 := HS1.out.inp.frozen 0; have nf1 := HS1.out.inp.frozen 1
        have i0 := HS1.out.im.cell 0; have i1 := HS1.out.im.cell 1; have i2 := HS1.out.im.cell 2; have i3 := HS1.out.im.cell 3
        have i4 := HS1.out.im.cell 4; have i5 := HS1.out.im.cell 5; have i6 := HS1.out.im.cell 6
        have jf0 := HS1.out.im.frozen 0; have jf1 := HS1.out.im.frozen 1; have jf2 := HS1.out.im.frozen 2; have jf3 := HS1.out.im.frozen 3
        have jf4 := HS1.out.im.frozen 4; have jf5 := HS1.out.im.frozen 5; have jf6 := HS1.out.im.frozen 6
        simp only [List.getElem?_toArray, List.getElem?_cons_zero, List.getElem?_cons_succ] at n0 n1 i0 i1 i2 i3 i4 i5 i6
        have C := Lib.hid (rnum_any r 9 HS1.out.ip (Nat.le_trans HBB.out HS1.out.blw.size) hr.1 hr.2 (by decide))
        rw [← e9] at C
        obtain ⟨⟨v9, t9⟩, h9⟩ : ∃ z, z = aE op r s := ⟨_, rfl⟩
        rw [← h9] at C
        have H9 := Lib.hid h9
        clear h9 e9 HE
        go_wp2_with fail
        refine C.out.mono ?_
        rintro e V ⟨A9, c9, rfl, hI, hb⟩
        have HN := Lib.hid (HS1.out.step hb hI 2 (.int .i64 v9) ⟨op, (dE op r s).1, v9, 0, 0, 0, 0⟩ rfl)
        clear n0 n1 nf0 nf1 i0 i1 i2 i3 i4 i5 i6 jf0 jf1 jf2 jf3 jf4 jf5 jf6
        have HNX := Lib.hid (HS1.out.next hb (Nat.le_trans HBB.out HS1.out.blw.size))
        clear C hb hI
        have n0 := HNX.out.inp.cell 0; have n1 := HNX.out.inp.cell 1
        have nf0 := HNX.out.inp.frozen 0; have nf1 := HNX.out.inp.frozen 1
        have i0 := HNX.out.im.cell 0; have i1 := HNX.out.im.cell 1; have i2 := HNX.out.im.cell 2; have i3 := HNX.out.im.cell 3
        have i4 := HNX.out.im.cell 4; have i5 := HNX.out.im.cell 5; have i6 := HNX.out.im.cell 6
        have jf0 := HNX.out.im.frozen 0; have jf1 := HNX.out.im.frozen 1; have jf2 := HNX.out.im.frozen 2; have jf3 := HNX.out.im.frozen 3
        have jf4 := HNX.out.im.frozen 4; have jf5 := HNX.out.im.frozen 5; have jf6 := HNX.out.im.frozen 6
        simp only [List.getElem?_toArray, List.getElem?_cons_zero, List.getElem?_cons_succ] at n0 n1 i0 i1 i2 i3 i4 i5 i6
        go_wp2_with fail
        go_meet
        case rel => exact ⟨A9, c9, by show RdS _ _ _ _ _ _ _; rw [← H9.out]; exact HN.out⟩
    case rest =>
      obtain ⟨A, c, HS2⟩ := hcut
      clear HS1 HE
      generalize wc = W1 at *
      obtain ⟨ub, hub⟩ : ∃ z, z = uB op := ⟨_, rfl⟩
      have HE : Hid (bE op r s = optE ub r 9 (aE op r s).2) := by show _ = _; rw [hub]; rfl
      have CU := Lib.hid fun W => rusesB_any op ub W hub.symm
      clear hub
      go_wp2_with fail
      refine (CU.out _).mono ?_
      rintro e V ⟨rfl, rfl⟩
      clear CU
      go_upto_if 35 with fail
      go_cut [] from 36 to 42 (fun wx => ∃ A c, Hid (RdS w B ⟨op, (dE op r s).1, (aE op r s).1, (bE op r s).1, 0, 0, 0⟩ (bE op r s).2 A c wx))
      case first =>
        cases ub
        · have e9 : bE op r s = (0, (aE op r s).2) := HE.out
          go_wp2_with fail
          go_meet
          case rel => exact ⟨A, c, by show RdS _ _ _ _ _ _ _; rw [e9]; exact HS2.out⟩
        · have e9 : bE op r s = numE r 9 (aE op r s).2 := HE.out
          have n0 := HS2.out.inp.cell 0; have n1 := HS2.out.inp.cell 1
          have nf0 := HS2.out.inp.frozen 0; have nf1 := HS2.out.inp.frozen 1
          have i0 := HS2.out.im.cell 0; have i1 := HS2.out.im.cell 1; have i2 := HS2.out.im.cell 2; have i3 := HS2.out.im.cell 3
          have i4 := HS2.out.im.cell 4; have i5 := HS2.out.im.cell 5; have i6 := HS2.out.im.cell 6
          have jf0 := HS2.out.im.frozen 0; have jf1 := HS2.out.im.frozen 1; have jf2 := HS2.out.im.frozen 2; have jf3 := HS2.out.im.frozen 3
          have jf4 := HS2.out.im.frozen 4; have jf5 := HS2.out.im.frozen 5; have jf6 := HS2.out.im.frozen 6
          simp only [List.getElem?_toArray, List.getElem?_cons_zero, List.getElem?_cons_succ] at n0 n1 i0 i1 i2 i3 i4 i5 i6
          have C := Lib.hid (rnum_any r 9 HS2.out.ip (Nat.le_trans HBB.out HS2.out.blw.size) hr.1 hr.2 (by decide))
          rw [← e9] at C
          obtain ⟨⟨v9, t9⟩, h9⟩ : ∃ z, z = bE op r s := ⟨_, rfl⟩
          rw [← h9] at C
          have H9 := Lib.hid h9
          clear h9 e9 HE
          go_wp2_with fail
          refine C.out.mono ?_
          rintro e V ⟨A9, c9, rfl, hI, hb⟩
          have HN := Lib.hid (HS2.out.step hb hI 3 (.int .i64 v9) ⟨op, (dE op r s).1, (aE op r s).1, v9, 0, 0, 0⟩ rfl)
          clear n0 n1 nf0 nf1 i0 i1 i2 i3 i4 i5 i6 jf0 jf1 jf2 jf3 jf4 jf5 jf6
          have HNX := Lib.hid (HS2.out.next hb (Nat.le_trans HBB.out HS2.out.blw.size))
          clear C hb hI
          have n0 := HNX.out.inp.cell 0; have n1 := HNX.out.inp.cell 1
          have nf0 := HNX.out.inp.frozen 0; have nf1 := HNX.out.inp.frozen 1
          have i0 := HNX.out.im.cell 0; have i1 := HNX.out.im.cell 1; have i2 := HNX.out.im.cell 2; have i3 := HNX.out.im.cell 3
          have i4 := HNX.out.im.cell 4; have i5 := HNX.out.im.cell 5; have i6 := HNX.out.im.cell 6
          have jf0 := HNX.out.im.frozen 0; have jf1 := HNX.out.im.frozen 1; have jf2 := HNX.out.im.frozen 2; have jf3 := HNX.out.im.frozen 3
          have jf4 := HNX.out.im.frozen 4; have jf5 := HNX.out.im.frozen 5; have jf6 := HNX.out.im.frozen 6
          simp only [List.getElem?_toArray, List.getElem?_cons_zero, List.getElem?_cons_succ] at n0 n1 i0 i1 i2 i3 i4 i5 i6
          go_wp2_with fail
          go_meet
          case rel => exact ⟨A9, c9, by show RdS _ _ _ _ _ _ _; rw [← H9.out]; exact HN.out⟩
      case rest =>
        obtain ⟨A, c, HS3⟩ := hcut
        clear HS2 HE
        generalize wc = W1 at *
        obtain ⟨t3, ht3⟩ : ∃ z, z = (bE op r s).2 := ⟨_, rfl⟩
        rw [← ht3] at HS3
        have HIE : Hid (iE op r s = immE (op == 1) t3) := by show _ = _; rw [ht3]; rfl
        clear ht3
        obtain ⟨b1, hb1⟩ : ∃ z, z = (op == 1) := ⟨_, rfl⟩
        obtain ⟨b2, hb2⟩ : ∃ z, z = (t3.err == 0) := ⟨_, rfl⟩
        rw [← hb1] at HIE
        have n0 := HS3.out.inp.cell 0; have n1 := HS3.out.inp.cell 1
        have nf0 := HS3.out.inp.frozen 0; have nf1 := HS3.out.inp.frozen 1
        have i0 := HS3.out.im.cell 0; have i1 := HS3.out.im.cell 1; have i2 := HS3.out.im.cell 2; have i3 := HS3.out.im.cell 3
        have i4 := HS3.out.im.cell 4; have i5 := HS3.out.im.cell 5; have i6 := HS3.out.im.cell 6
        have jf0 := HS3.out.im.frozen 0; have jf1 := HS3.out.im.frozen 1; have jf2 := HS3.out.im.frozen 2; have jf3 := HS3.out.im.frozen 3
        have jf4 := HS3.out.im.frozen 4; have jf5 := HS3.out.im.frozen 5; have jf6 := HS3.out.im.frozen 6
        simp only [List.getElem?_toArray, List.getElem?_cons_zero, List.getElem?_cons_succ] at n0 n1 i0 i1 i2 i3 i4 i5 i6
        go_upto_region 8 with fail
        go_cut [49] from 43 to 49 (fun s49 wx => s49 = .bool (b1 && b2) ∧ wx = W1)
        case first =>
          cases b1
          · have e1 := hb1.symm
            clear hb1 hb2
            go_wp2_with fail
            go_meet
            case rel => exact ⟨rfl, rfl⟩
          · have e1 := hb1.symm
            have e2 := hb2.symm
            clear hb1 hb2
            cases b2
            · go_wp2_with fail
              go_meet
              case rel => exact ⟨rfl, rfl⟩
            · go_wp2_with fail
              go_meet
              case rel => exact ⟨rfl, rfl⟩
        case rest =>
          obtain ⟨rfl, rfl⟩ := hcut
          clear n0 n1 nf0 nf1 i0 i1 i2 i3 i4 i5 i6 jf0 jf1 jf2 jf3 jf4 jf5 jf6
          have HB1 := Lib.hid hb1
          have HB2 := Lib.hid hb2
          clear hb1 hb2
          obtain ⟨bb, hbb⟩ : ∃ z, z = (b1 && b2) := ⟨_, rfl⟩
          rw [← hbb]
          go_upto_if 49 with fail
          go_cut [11, 12, 13] from 50 to 69 (fun s11 s12 s13 wx => ∃ A c, Hid (RdS w B ⟨op, (dE op r s).1, (aE op r s).1, (bE op r s).1, (iE op r s).1, 0, 0⟩ (iE op r s).2 A c wx))
          case first =>
            cases bb
            · have e9 : iE op r s = (0, t3) := by
                rw [HIE.out]
                unfold immE
                refine if_neg fun hh => ?_
                have h1 := HB2.out
                rw [hh.1] at hbb
                rw [h1, hh.2] at hbb
                cases hbb
              go_wp2_with fail
              go_meet
              case rel => exact ⟨A, c, by show RdS _ _ _ _ _ _ _; rw [e9]; exact HS3.out⟩
            · have hbs : b1 = true ∧ b2 = true := by rcases b1 with _ | _ <;> rcases b2 with _ | _ <;> first | exact ⟨rfl, rfl⟩ | cases hbb
              have hb1 := hbs.1
              have hb2 : t3.err = 0 := by
                have h1 := HB2.out
                rw [hbs.2] at h1
                simpa using h1.symm
              have HG : Hid (iE op r s = if (getS t3.rest).2.2 ≠ 0 then (0, ⟨[], ((getS t3.rest).2.2 : Int)⟩) else (uz ((getS t3.rest).1 : Int), ⟨t3.rest.drop (getS t3.rest).2.1, 0⟩)) := by
                show _ = _
                rw [HIE.out]
                unfold immE
                exact if_pos ⟨hb1, hb2⟩
              have HE3 := Lib.hid hb2
              have HI3 := Lib.hid HS3.out.ip
              have C := Lib.hid (rget_any B A t3.rest c wc HI3.out.see HI3.out.byt (by have := HI3.out.sm; unfold maxLen; omega))
              obtain ⟨hg0, hg64⟩ := get_facts HI3.out.byt
              have HG0 := Lib.hid hg0
              obtain ⟨gv, hgv⟩ : ∃ z, z = (getS t3.rest).1 := ⟨_, rfl⟩
              obtain ⟨gn, hgn⟩ : ∃ z, z = (getS t3.rest).2.1 := ⟨_, rfl⟩
              obtain ⟨ge, hge⟩ : ∃ z, z = (getS t3.rest).2.2 := ⟨_, rfl⟩
              rw [← hgv, ← hgn, ← hge] at C HG
              rw [← hgn, ← hge] at HG0
              rw [← hgv] at hg64
              have hmx : t3.rest.length ≤ 9223372036854775807 := by have := HI3.out.sm; omega
              clear hb1 hb2 hbs hbb HIE HB1 HB2 hg0 hgv hgn hge
              have n0 := HS3.out.inp.cell 0; have n1 := HS3.out.inp.cell 1
              have nf0 := HS3.out.inp.frozen 0; have nf1 := HS3.out.inp.frozen 1
              have i0 := HS3.out.im.cell 0; have i1 := HS3.out.im.cell 1; have i2 := HS3.out.im.cell 2; have i3 := HS3.out.im.cell 3
              have i4 := HS3.out.im.cell 4; have i5 := HS3.out.im.cell 5; have i6 := HS3.out.im.cell 6
              have jf0 := HS3.out.im.frozen 0; have jf1 := HS3.out.im.frozen 1; have jf2 := HS3.out.im.frozen 2; have jf3 := HS3.out.im.frozen 3
              have jf4 := HS3.out.im.frozen 4; have jf5 := HS3.out.im.frozen 5; have jf6 := HS3.out.im.frozen 6
              simp only [List.getElem?_toArray, List.getElem?_cons_zero, List.getElem?_cons_succ] at n0 n1 i0 i1 i2 i3 i4 i5 i6
              go_wp2_with fail
              refine C.out.mono ?_
              rintro e V ⟨rfl, rfl⟩
              clear C
              by_cases hz : ge = 0
              · subst hz
                have HG2 : Hid (iE op r s = (uz (gv : Int), ⟨t3.rest.drop gn, 0⟩)) := by show _ = _; rw [HG.out]; exact if_neg (by omega)
                obtain ⟨hg1, hgl⟩ := HG0.out rfl
                obtain ⟨A2, hA2, hA3, hI2⟩ := HI3.out.drop hgl 0
                have hle := HI3.out.le
                have hcm := HI3.out.cm
                have hlen : (t3.rest.drop gn).length = t3.rest.length - gn := List.length_drop ..
                obtain ⟨b, o, rfl, _, _⟩ := HI3.out.see (by intro e; have := congrArg List.length e; simp [bts] at this; rw [this] at hgl; simp at hgl; omega)
                have hite : (if c = gn then some ⟨b, o, none⟩ else some (⟨b, o + gn, none⟩ : Addr)) = A2 := (hA2 b o rfl).symm
                obtain ⟨q, hq⟩ : ∃ z, z = t3.rest.length := ⟨_, rfl⟩
                rw [← hq] at n0 hgl hle hlen
                obtain ⟨k, rfl⟩ : ∃ k, q = gn + k := ⟨q - gn, by omega⟩
                have hlen : (t3.rest.drop gn).length = k := by omega
                have HL := Lib.hid hlen
                clear HG HG0 hA2 hA3 hq hlen
                unfold maxLen at hcm
                have CZ := Lib.hid (runzig_any (gv : Int) wc ⟨by omega, by omega⟩)
                go_wp2_with fail
                refine CZ.out.mono ?_
                rintro e V ⟨rfl, rfl⟩
                clear CZ
                go_wp2_with fail
                obtain rfl : k = (t3.rest.drop gn).length := HL.out.symm
                have HF4 := HS3.out.fld 4 (.int .i64 (uz (gv : Int))) ⟨op, (dE op r s).1, (aE op r s).1, (bE op r s).1, uz (gv : Int), 0, 0⟩ rfl HBB.out
                have hw4 : Below w.heap.size wc (wc.setCell ⟨w.heap.size + 1 + 1 + 1, 4, none⟩ (.int .i64 (uz (gv : Int)))) := (Below.refl _ wc).setCell (p := ⟨w.heap.size + 1 + 1 + 1, 4, none⟩) (by show _ ≤ w.heap.size + 1 + 1 + 1; omega) _
                have HF5 := Lib.hid (HF4.rst (hI2.below (hw4.mono HBB.out)) HE3.out.symm HBB.out)
                clear HF4
                go_meet
                case rel => exact ⟨A2, c - gn, by show RdS _ _ _ _ _ _ _; rw [HG2.out]; exact HF5.out⟩
              · have d1 : ((ge : Int) != 0) = true := by simp; omega
                have HG2 : Hid (iE op r s = (0, ⟨[], (ge : Int)⟩)) := by show _ = _; rw [HG.out]; exact if_pos hz
                have HY2 : Hid (Y = (Mi0, ⟨[], (ge : Int)⟩)) := by show _ = _; rw [HY.out]; exact readE_i (by rw [HG2.out]) (by show (ge : Int) ≠ 0; omega)
                clear HG HG0 hz
                have k0 := HS3.out.z8.cell 0; have k1 := HS3.out.z8.cell 1; have k2 := HS3.out.z8.cell 2; have k3 := HS3.out.z8.cell 3
                have k4 := HS3.out.z8.cell 4; have k5 := HS3.out.z8.cell 5; have k6 := HS3.out.z8.cell 6
                have kf0 := HS3.out.z8.frozen 0; have kf1 := HS3.out.z8.frozen 1; have kf2 := HS3.out.z8.frozen 2; have kf3 := HS3.out.z8.frozen 3
                have kf4 := HS3.out.z8.frozen 4; have kf5 := HS3.out.z8.frozen 5; have kf6 := HS3.out.z8.frozen 6
                have q0 := HS3.out.z9.cell 0; have q1 := HS3.out.z9.cell 1
                have qf0 := HS3.out.z9.frozen 0; have qf1 := HS3.out.z9.frozen 1
                simp only [List.getElem?_toArray, List.getElem?_cons_zero, List.getElem?_cons_succ] at k0 k1 k2 k3 k4 k5 k6 q0 q1
                go_wp2
                (try simp only [Exit.inBlock, Exit.then])
                obtain ⟨hf8, hf9, hfb⟩ := HS3.out.fin (⟨0, 0, 0, 0, 0, 0, 0⟩ : Mi) (⟨[], (ge : Int)⟩ : Ip) none 0 (IpV.nil wc B (ge : Int)) HBB.out
                refine bodyPost_ret (v := .tuple #[.agg #[.int .i64 (⟨0, 0, 0, 0, 0, 0, 0⟩ : Mi).op, .int .i64 (⟨0, 0, 0, 0, 0, 0, 0⟩ : Mi).d, .int .i64 (⟨0, 0, 0, 0, 0, 0, 0⟩ : Mi).a, .int .i64 (⟨0, 0, 0, 0, 0, 0, 0⟩ : Mi).b, .int .i64 (⟨0, 0, 0, 0, 0, 0, 0⟩ : Mi).imm, .int .i64 (⟨0, 0, 0, 0, 0, 0, 0⟩ : Mi).dst, .int .i64 (⟨0, 0, 0, 0, 0, 0, 0⟩ : Mi).src], .agg #[.slice none (⟨[], (ge : Int)⟩ : Ip).rest.length 0, .int .i64 (⟨[], (ge : Int)⟩ : Ip).err]]) ?_ rfl ⟨none, 0, ?_, ?_, ?_⟩
                · exact results_row_row rfl _ _ (w.heap.size + 1 + 1) (w.heap.size + 1) 55 97 #[.slice none (⟨[], (ge : Int)⟩ : Ip).rest.length 0, .int .i64 (⟨[], (ge : Int)⟩ : Ip).err] #[.int .i64 (⟨0, 0, 0, 0, 0, 0, 0⟩ : Mi).op, .int .i64 (⟨0, 0, 0, 0, 0, 0, 0⟩ : Mi).d, .int .i64 (⟨0, 0, 0, 0, 0, 0, 0⟩ : Mi).a, .int .i64 (⟨0, 0, 0, 0, 0, 0, 0⟩ : Mi).b, .int .i64 (⟨0, 0, 0, 0, 0, 0, 0⟩ : Mi).imm, .int .i64 (⟨0, 0, 0, 0, 0, 0, 0⟩ : Mi).dst, .int .i64 (⟨0, 0, 0, 0, 0, 0, 0⟩ : Mi).src] (0, 0) (0, 0) _ _ rfl hf9 Try.underlying55 rfl (by kernel_rfl) rfl hf8 Try.underlying97 rfl (by kernel_rfl)
                · rw [HY2.out]; (try rfl)
                · rw [HY2.out]; exact IpV.below (IpV.nil wc B (ge : Int)) (hfb.mono HBB.out)
                · exact HS3.out.blw.trans hfb
          case rest =>
            obtain ⟨A, c, HS4⟩ := hcut
            clear HS3 HIE hbb HB1 HB2
            generalize wc = W1 at *
            obtain ⟨t4, ht4⟩ : ∃ z, z = (iE op r s).2 := ⟨_, rfl⟩
            rw [← ht4] at HS4
            have HXE : Hid (xE op r n s = olocE (op == 18) r n t4) := by show _ = _; rw [ht4]; rfl
            clear ht4
            obtain ⟨b1, hb1⟩ : ∃ z, z = (op == 18) := ⟨_, rfl⟩
            have HYE : Hid (yE op r n s = olocE b1 r n (xE op r n s).2) := by show _ = _; rw [hb1]; rfl
            have HZE : Hid (zE op r n s = twoE b1 (xE op r n s).1 (yE op r n s).1 (yE op r n s).2) := by show _ = _; rw [hb1]; rfl
            rw [← hb1] at HXE
            have e1 := hb1.symm
            clear hb1
            go_upto_if 71 with fail
            go_cut [] from 72 to 106 (fun wx => ∃ A c, Hid (RdS w B ⟨op, (dE op r s).1, (aE op r s).1, (bE op r s).1, (iE op r s).1, (xE op r n s).1, (yE op r n s).1⟩ (zE op r n s) A c wx))
            case first =>
              clear e1
              cases b1
              · have ex : xE op r n s = (0, t4) := HXE.out
                have ey : yE op r n s = (0, t4) := by rw [HYE.out, ex]; rfl
                have ez : zE op r n s = t4 := by rw [HZE.out, ex, ey]; rfl
                go_wp2_with fail
                go_meet
                case rel => exact ⟨A, c, by show RdS _ _ _ _ _ _ _; rw [ez, ey, ex]; exact HS4.out⟩
              · have ex : xE op r n s = locE r n t4 := by rw [HXE.out]; exact olocE_true
                have C := Lib.hid (rloc_any r n HS4.out.ip (Nat.le_trans HBB.out HS4.out.blw.size))
                have hv5 := locE_rng (r := r) (n := n) (s := t4)
                rw [← ex] at C hv5
                obtain ⟨⟨v5, t5⟩, h5⟩ : ∃ z, z = xE op r n s := ⟨_, rfl⟩
                rw [← h5] at C hv5 HYE HZE
                have H5 := Lib.hid h5
                clear h5 ex HXE
                dsimp only at hv5
                obtain ⟨hv5a, hv5b⟩ := hv5
                have n0 := HS4.out.inp.cell 0; have n1 := HS4.out.inp.cell 1
                have nf0 := HS4.out.inp.frozen 0; have nf1 := HS4.out.inp.frozen 1
                have i0 := HS4.out.im.cell 0; have i1 := HS4.out.im.cell 1; have i2 := HS4.out.im.cell 2; have i3 := HS4.out.im.cell 3
                have i4 := HS4.out.im.cell 4; have i5 := HS4.out.im.cell 5; have i6 := HS4.out.im.cell 6
                have jf0 := HS4.out.im.frozen 0; have jf1 := HS4.out.im.frozen 1; have jf2 := HS4.out.im.frozen 2; have jf3 := HS4.out.im.frozen 3
                have jf4 := HS4.out.im.frozen 4; have jf5 := HS4.out.im.frozen 5; have jf6 := HS4.out.im.frozen 6
                simp only [List.getElem?_toArray, List.getElem?_cons_zero, List.getElem?_cons_succ] at n0 n1 i0 i1 i2 i3 i4 i5 i6
                go_wp2_with fail
                refine C.out.mono ?_
                rintro e V ⟨A5, c5, rfl, hI, hb⟩
                have HN := Lib.hid (HS4.out.step hb hI 5 (.int .i64 v5) ⟨op, (dE op r s).1, (aE op r s).1, (bE op r s).1, (iE op r s).1, v5, 0⟩ rfl)
                clear n0 n1 nf0 nf1 i0 i1 i2 i3 i4 i5 i6 jf0 jf1 jf2 jf3 jf4 jf5 jf6
                have HNX := Lib.hid (HS4.out.next hb (Nat.le_trans HBB.out HS4.out.blw.size))
                clear C hb hI
                have n0 := HNX.out.inp.cell 0; have n1 := HNX.out.inp.cell 1
                have nf0 := HNX.out.inp.frozen 0; have nf1 := HNX.out.inp.frozen 1
                have i0 := HNX.out.im.cell 0; have i1 := HNX.out.im.cell 1; have i2 := HNX.out.im.cell 2; have i3 := HNX.out.im.cell 3
                have i4 := HNX.out.im.cell 4; have i5 := HNX.out.im.cell 5; have i6 := HNX.out.im.cell 6
                have jf0 := HNX.out.im.frozen 0; have jf1 := HNX.out.im.frozen 1; have jf2 := HNX.out.im.frozen 2; have jf3 := HNX.out.im.frozen 3
                have jf4 := HNX.out.im.frozen 4; have jf5 := HNX.out.im.frozen 5; have jf6 := HNX.out.im.frozen 6
                simp only [List.getElem?_toArray, List.getElem?_cons_zero, List.getElem?_cons_succ] at n0 n1 i0 i1 i2 i3 i4 i5 i6
                go_upto_region 16 with fail
                clear n0 n1 nf0 nf1 i0 i1 i2 i3 i4 i5 i6 jf0 jf1 jf2 jf3 jf4 jf5 jf6
                clear HNX HS4
                generalize (((V.setCell ⟨w.heap.size + 1 + 1 + 1, 5, none⟩ (.int .i64 v5)).setCell ⟨w.heap.size, 0, none⟩ (.slice A5 t5.rest.length c5)).setCell ⟨w.heap.size, 1, none⟩ (.int .i64 t5.err)) = W5 at *
                have n0 := HN.out.inp.cell 0; have n1 := HN.out.inp.cell 1
                have nf0 := HN.out.inp.frozen 0; have nf1 := HN.out.inp.frozen 1
                have i0 := HN.out.im.cell 0; have i1 := HN.out.im.cell 1; have i2 := HN.out.im.cell 2; have i3 := HN.out.im.cell 3
                have i4 := HN.out.im.cell 4; have i5 := HN.out.im.cell 5; have i6 := HN.out.im.cell 6
                have jf0 := HN.out.im.frozen 0; have jf1 := HN.out.im.frozen 1; have jf2 := HN.out.im.frozen 2; have jf3 := HN.out.im.frozen 3
                have jf4 := HN.out.im.frozen 4; have jf5 := HN.out.im.frozen 5; have jf6 := HN.out.im.frozen 6
                simp only [List.getElem?_toArray, List.getElem?_cons_zero, List.getElem?_cons_succ] at n0 n1 i0 i1 i2 i3 i4 i5 i6
                by_cases he5 : t5.err = 0
                · have e5 : (t5.err == 0) = true := by simp [he5]
                  have ey : yE op r n s = locE r n t5 := by rw [HYE.out]; exact olocE_true
                  have C2 := Lib.hid (rloc_any r n HN.out.ip (Nat.le_trans HBB.out HN.out.blw.size))
                  have hv6 := locE_rng (r := r) (n := n) (s := t5)
                  rw [← ey] at C2 hv6
                  obtain ⟨⟨v6, t6⟩, h6⟩ : ∃ z, z = yE op r n s := ⟨_, rfl⟩
                  rw [← h6] at C2 hv6 HZE
                  have H6 := Lib.hid h6
                  clear h6 ey HYE he5
                  dsimp only at hv6
                  obtain ⟨hv6a, hv6b⟩ := hv6
                  go_wp2_with fail
                  refine C2.out.mono ?_
                  rintro e V6 ⟨A6, c6, rfl, hI, hb⟩
                  have HN6 := Lib.hid (HN.out.step hb hI 6 (.int .i64 v6) ⟨op, (dE op r s).1, (aE op r s).1, (bE op r s).1, (iE op r s).1, v5, v6⟩ rfl)
                  clear n0 n1 nf0 nf1 i0 i1 i2 i3 i4 i5 i6 jf0 jf1 jf2 jf3 jf4 jf5 jf6
                  have HNX := Lib.hid (HN.out.next hb (Nat.le_trans HBB.out HN.out.blw.size))
                  clear C2 hb hI e5
                  have n0 := HNX.out.inp.cell 0; have n1 := HNX.out.inp.cell 1
                  have nf0 := HNX.out.inp.frozen 0; have nf1 := HNX.out.inp.frozen 1
                  have i0 := HNX.out.im.cell 0; have i1 := HNX.out.im.cell 1; have i2 := HNX.out.im.cell 2; have i3 := HNX.out.im.cell 3
                  have i4 := HNX.out.im.cell 4; have i5 := HNX.out.im.cell 5; have i6 := HNX.out.im.cell 6
                  have jf0 := HNX.out.im.frozen 0; have jf1 := HNX.out.im.frozen 1; have jf2 := HNX.out.im.frozen 2; have jf3 := HNX.out.im.frozen 3
                  have jf4 := HNX.out.im.frozen 4; have jf5 := HNX.out.im.frozen 5; have jf6 := HNX.out.im.frozen 6
                  simp only [List.getElem?_toArray, List.getElem?_cons_zero, List.getElem?_cons_succ] at n0 n1 i0 i1 i2 i3 i4 i5 i6
                  go_upto_region 18 with fail
                  clear n0 n1 nf0 nf1 i0 i1 i2 i3 i4 i5 i6 jf0 jf1 jf2 jf3 jf4 jf5 jf6
                  clear HNX HN
                  generalize (((V6.setCell ⟨w.heap.size + 1 + 1 + 1, 6, none⟩ (.int .i64 v6)).setCell ⟨w.heap.size, 0, none⟩ (.slice A6 t6.rest.length c6)).setCell ⟨w.heap.size, 1, none⟩ (.int .i64 t6.err)) = W6 at *
                  have n0 := HN6.out.inp.cell 0; have n1 := HN6.out.inp.cell 1
                  have nf0 := HN6.out.inp.frozen 0; have nf1 := HN6.out.inp.frozen 1
                  have i0 := HN6.out.im.cell 0; have i1 := HN6.out.im.cell 1; have i2 := HN6.out.im.cell 2; have i3 := HN6.out.im.cell 3
                  have i4 := HN6.out.im.cell 4; have i5 := HN6.out.im.cell 5; have i6 := HN6.out.im.cell 6
                  have jf0 := HN6.out.im.frozen 0; have jf1 := HN6.out.im.frozen 1; have jf2 := HN6.out.im.frozen 2; have jf3 := HN6.out.im.frozen 3
                  have jf4 := HN6.out.im.frozen 4; have jf5 := HN6.out.im.frozen 5; have jf6 := HN6.out.im.frozen 6
                  simp only [List.getElem?_toArray, List.getElem?_cons_zero, List.getElem?_cons_succ] at n0 n1 i0 i1 i2 i3 i4 i5 i6
                  by_cases he6 : t6.err = 0
                  · have e6 : (t6.err == 0) = true := by simp [he6]
                    have HE6 := Lib.hid he6
                    clear he6
                    by_cases p5 : v5 % 2 = 1
                    · have d5 : (v5 % 2 == 1) = true := by simp [p5]
                      by_cases p6 : v6 % 2 = 1
                      · have d6 : (v6 % 2 == 1) = true := by simp [p6]
                        have ez : zE op r n s = ⟨[], 10⟩ := by rw [HZE.out]; exact if_pos ⟨rfl, HE6.out, p5, p6⟩
                        have HEZ := Lib.hid ez
                        clear HZE ez p5 p6
                        go_wp2_with fail
                        have HF := Lib.hid (HN6.out.inpt (Below.refl _ _) (IpV.nil W6 B 10) HBB.out)
                        go_meet
                        case rel => exact ⟨none, 0, by show RdS _ _ _ _ _ _ _; rw [HEZ.out, ← H6.out, ← H5.out]; exact HF.out⟩
                      · have d6 : (v6 % 2 == 1) = false := by simp [p6]
                        have ez : zE op r n s = t6 := by rw [HZE.out]; exact if_neg fun hh => p6 hh.2.2.2
                        have HEZ := Lib.hid ez
                        clear HZE ez p5 p6
                        go_wp2_with fail
                        go_meet
                        case rel => exact ⟨A6, c6, by show RdS _ _ _ _ _ _ _; rw [HEZ.out, ← H6.out, ← H5.out]; exact HN6.out⟩
                    · have d5 : (v5 % 2 == 1) = false := by simp [p5]
                      have ez : zE op r n s = t6 := by rw [HZE.out]; exact if_neg fun hh => p5 hh.2.2.1
                      have HEZ := Lib.hid ez
                      clear HZE ez p5
                      go_wp2_with fail
                      go_meet
                      case rel => exact ⟨A6, c6, by show RdS _ _ _ _ _ _ _; rw [HEZ.out, ← H6.out, ← H5.out]; exact HN6.out⟩
                  · have e6 : (t6.err == 0) = false := by simp [he6]
                    have ez : zE op r n s = t6 := by rw [HZE.out]; exact if_neg fun hh => he6 hh.2.1
                    have HEZ := Lib.hid ez
                    clear HZE ez
                    go_wp2_with fail
                    go_meet
                    case rel => exact ⟨A6, c6, by show RdS _ _ _ _ _ _ _; rw [HEZ.out, ← H6.out, ← H5.out]; exact HN6.out⟩
                · have e5 : (t5.err == 0) = false := by simp [he5]
                  have ey : yE op r n s = (0, t5) := by rw [HYE.out]; exact olocE_err he5
                  have ez : zE op r n s = t5 := by rw [HZE.out, ey]; exact twoE_err he5
                  have HEY := Lib.hid ey
                  have HEZ := Lib.hid ez
                  clear HZE HYE ey ez
                  go_wp2_with fail
                  go_meet
                  case rel => exact ⟨A5, c5, by show RdS _ _ _ _ _ _ _; rw [HEZ.out, HEY.out, ← H5.out]; exact HN.out⟩
            case rest =>
              obtain ⟨A, c, HS5⟩ := hcut
              clear HS4 HXE HYE HZE
              generalize wc = W7 at *
              have HYZ : Hid (Y = if (zE op r n s).err ≠ 0 then (Mi0, zE op r n s) else (⟨op, (dE op r s).1, (aE op r s).1, (bE op r s).1, (iE op r s).1, (xE op r n s).1, (yE op r n s).1⟩, zE op r n s)) := HY.out
              obtain ⟨m7, hm7⟩ : ∃ z : Mi, z = ⟨op, (dE op r s).1, (aE op r s).1, (bE op r s).1, (iE op r s).1, (xE op r n s).1, (yE op r n s).1⟩ := ⟨_, rfl⟩
              obtain ⟨t7, ht7⟩ : ∃ z, z = zE op r n s := ⟨_, rfl⟩
              rw [← hm7, ← ht7] at HS5 HYZ
              clear hm7 ht7 HY
              have n0 := HS5.out.inp.cell 0; have n1 := HS5.out.inp.cell 1
              have nf0 := HS5.out.inp.frozen 0; have nf1 := HS5.out.inp.frozen 1
              have i0 := HS5.out.im.cell 0; have i1 := HS5.out.im.cell 1; have i2 := HS5.out.im.cell 2; have i3 := HS5.out.im.cell 3
              have i4 := HS5.out.im.cell 4; have i5 := HS5.out.im.cell 5; have i6 := HS5.out.im.cell 6
              have jf0 := HS5.out.im.frozen 0; have jf1 := HS5.out.im.frozen 1; have jf2 := HS5.out.im.frozen 2; have jf3 := HS5.out.im.frozen 3
              have jf4 := HS5.out.im.frozen 4; have jf5 := HS5.out.im.frozen 5; have jf6 := HS5.out.im.frozen 6
              simp only [List.getElem?_toArray, List.getElem?_cons_zero, List.getElem?_cons_succ] at n0 n1 i0 i1 i2 i3 i4 i5 i6
              have k0 := HS5.out.z8.cell 0; have k1 := HS5.out.z8.cell 1; have k2 := HS5.out.z8.cell 2; have k3 := HS5.out.z8.cell 3
              have k4 := HS5.out.z8.cell 4; have k5 := HS5.out.z8.cell 5; have k6 := HS5.out.z8.cell 6
              have kf0 := HS5.out.z8.frozen 0; have kf1 := HS5.out.z8.frozen 1; have kf2 := HS5.out.z8.frozen 2; have kf3 := HS5.out.z8.frozen 3
              have kf4 := HS5.out.z8.frozen 4; have kf5 := HS5.out.z8.frozen 5; have kf6 := HS5.out.z8.frozen 6
              have q0 := HS5.out.z9.cell 0; have q1 := HS5.out.z9.cell 1
              have qf0 := HS5.out.z9.frozen 0; have qf1 := HS5.out.z9.frozen 1
              simp only [List.getElem?_toArray, List.getElem?_cons_zero, List.getElem?_cons_succ] at k0 k1 k2 k3 k4 k5 k6 q0 q1
              by_cases he7 : t7.err ≠ 0
              · have e7 : (t7.err != 0) = true := by simp [he7]
                have HY2 : Hid (Y = (Mi0, t7)) := by show _ = _; rw [HYZ.out]; exact if_pos he7
                clear he7 HYZ
                go_wp2_with fail
                go_region
                go_wp2
                (try simp only [Exit.inBlock, Exit.then])
                obtain ⟨hf8, hf9, hfb⟩ := HS5.out.fin (⟨0, 0, 0, 0, 0, 0, 0⟩ : Mi) t7 A c HS5.out.ip HBB.out
                refine bodyPost_ret (v := .tuple #[.agg #[.int .i64 (⟨0, 0, 0, 0, 0, 0, 0⟩ : Mi).op, .int .i64 (⟨0, 0, 0, 0, 0, 0, 0⟩ : Mi).d, .int .i64 (⟨0, 0, 0, 0, 0, 0, 0⟩ : Mi).a, .int .i64 (⟨0, 0, 0, 0, 0, 0, 0⟩ : Mi).b, .int .i64 (⟨0, 0, 0, 0, 0, 0, 0⟩ : Mi).imm, .int .i64 (⟨0, 0, 0, 0, 0, 0, 0⟩ : Mi).dst, .int .i64 (⟨0, 0, 0, 0, 0, 0, 0⟩ : Mi).src], .agg #[.slice A t7.rest.length c, .int .i64 t7.err]]) ?_ rfl ⟨A, c, ?_, ?_, ?_⟩
                · exact results_row_row rfl _ _ (w.heap.size + 1 + 1) (w.heap.size + 1) 55 97 #[.slice A t7.rest.length c, .int .i64 t7.err] #[.int .i64 (⟨0, 0, 0, 0, 0, 0, 0⟩ : Mi).op, .int .i64 (⟨0, 0, 0, 0, 0, 0, 0⟩ : Mi).d, .int .i64 (⟨0, 0, 0, 0, 0, 0, 0⟩ : Mi).a, .int .i64 (⟨0, 0, 0, 0, 0, 0, 0⟩ : Mi).b, .int .i64 (⟨0, 0, 0, 0, 0, 0, 0⟩ : Mi).imm, .int .i64 (⟨0, 0, 0, 0, 0, 0, 0⟩ : Mi).dst, .int .i64 (⟨0, 0, 0, 0, 0, 0, 0⟩ : Mi).src] (0, 0) (0, 0) _ _ rfl hf9.drew Try.underlying55 rfl (by kernel_rfl) rfl hf8.drew Try.underlying97 rfl (by kernel_rfl)
                · rw [HY2.out]; (try rfl)
                · rw [HY2.out]; exact IpV.below HS5.out.ip ((hfb.drew).mono HBB.out)
                · exact HS5.out.blw.trans hfb.drew
              · have e7 : (t7.err != 0) = false := by simpa using he7
                have HY2 : Hid (Y = (m7, t7)) := by show _ = _; rw [HYZ.out]; exact if_neg he7
                clear he7 HYZ
                go_wp2_with fail
                go_region
                go_wp2
                (try simp only [Exit.inBlock, Exit.then])
                obtain ⟨hf8, hf9, hfb⟩ := HS5.out.fin m7 t7 A c HS5.out.ip HBB.out
                refine bodyPost_ret (v := .tuple #[.agg #[.int .i64 m7.op, .int .i64 m7.d, .int .i64 m7.a, .int .i64 m7.b, .int .i64 m7.imm, .int .i64 m7.dst, .int .i64 m7.src], .agg #[.slice A t7.rest.length c, .int .i64 t7.err]]) ?_ rfl ⟨A, c, ?_, ?_, ?_⟩
                · exact results_row_row rfl _ _ (w.heap.size + 1 + 1) (w.heap.size + 1) 55 97 #[.slice A t7.rest.length c, .int .i64 t7.err] #[.int .i64 m7.op, .int .i64 m7.d, .int .i64 m7.a, .int .i64 m7.b, .int .i64 m7.imm, .int .i64 m7.dst, .int .i64 m7.src] (0, 0) (0, 0) _ _ rfl hf9.drew Try.underlying55 rfl (by kernel_rfl) rfl hf8.drew Try.underlying97 rfl (by kernel_rfl)
                · rw [HY2.out]; (try rfl)
                · rw [HY2.out]; exact IpV.below HS5.out.ip ((hfb.drew).mono HBB.out)
                · exact HS5.out.blw.trans hfb.drew

end Go.Proofs.Ytkapmfopfddmbaa
