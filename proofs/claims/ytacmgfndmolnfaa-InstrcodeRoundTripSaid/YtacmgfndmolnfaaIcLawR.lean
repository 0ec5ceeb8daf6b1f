/-
  The walk of InstrcodeRoundTrip (made by wip/lab/geniclawr.py).
-/
import Derived.Test.YtacmgfndmolnfaaIcLawC
import Derived.Test.YtacmgfndmolnfaaIcSt
import Derived.Test.YtacmgfndmolnfaaSrcIn
import Derived.Test.YtacmgfndmolnfaaVarAdd
import Derived.Deep.RegionHeldLaw
import Derived.Deep.DeepMust
namespace Go.Proofs.Ytacmgfndmolnfaa
open Go.RowKit
set_option linter.unusedVariables false
set_option linter.unusedSimpArgs false

/-- The three arguments in their boxes. -/
structure RT (w : World) (x : In) (y : Mi) (z : Tm) (W : World) : Prop where
  blw : Below w.heap.size w W
  i_ : Row W w.heap.size 30 #[.int .i64 x.op, .int .i64 x.d, .int .i64 x.a, .int .i64 x.b, .int .i64 x.imm]
  m_ : Row W (w.heap.size + 1) 34 #[.int .i64 y.op, .int .i64 y.d, .int .i64 y.a, .int .i64 y.b, .int .i64 y.imm, .int .i64 y.dst, .int .i64 y.src]
  t_ : Row W (w.heap.size + 1 + 1) 37 #[.int .i64 z.kind, .int .i64 z.a, .int .i64 z.to, .int .i64 z.el]
section
variable {w : World} {x : In} {y : Mi} {z : Tm} {W W' : World}
theorem RT.mods {S : Nat → Prop} (h : RT w x y z W) (hm : Mods S W W') (hS : ∀ k, S k → w.heap.size + 1 + 1 < k) : RT w x y z W' :=
  ⟨h.blw.trans (hm.below (B := w.heap.size) h.blw.size (fun k hk => by have := hS k hk; omega)), h.i_.mods hm (fun hk => by have := hS _ hk; omega), h.m_.mods hm (fun hk => by have := hS _ hk; omega), h.t_.mods hm (fun hk => by have := hS _ hk; omega)⟩
theorem RT.below (h : RT w x y z W) (hb : Below W.heap.size W W') : RT w x y z W' := h.mods (S := No) (Mods.of_below hb) fun _ hk => hk.elim
theorem RT.drewN (h : RT w x y z W) (n : Nat) : RT w x y z (W.drewN n) := h.mods (S := No) ((Mods.refl _ _).drewN n) fun _ hk => hk.elim
theorem RT.drew (h : RT w x y z W) : RT w x y z W.drew := h.drewN 1
theorem RT.cells (h : RT w x y z W) : W.cell? ⟨w.heap.size, 0, none⟩ = some (.int .i64 x.op) ∧ W.cell? ⟨w.heap.size, 1, none⟩ = some (.int .i64 x.d) ∧ W.cell? ⟨w.heap.size, 2, none⟩ = some (.int .i64 x.a) ∧ W.cell? ⟨w.heap.size, 3, none⟩ = some (.int .i64 x.b) ∧ W.cell? ⟨w.heap.size, 4, none⟩ = some (.int .i64 x.imm) ∧ W.cell? ⟨w.heap.size + 1, 0, none⟩ = some (.int .i64 y.op) ∧ W.cell? ⟨w.heap.size + 1, 1, none⟩ = some (.int .i64 y.d) ∧ W.cell? ⟨w.heap.size + 1, 2, none⟩ = some (.int .i64 y.a) ∧ W.cell? ⟨w.heap.size + 1, 3, none⟩ = some (.int .i64 y.b) ∧ W.cell? ⟨w.heap.size + 1, 4, none⟩ = some (.int .i64 y.imm) ∧ W.cell? ⟨w.heap.size + 1, 5, none⟩ = some (.int .i64 y.dst) ∧ W.cell? ⟨w.heap.size + 1, 6, none⟩ = some (.int .i64 y.src) ∧ W.cell? ⟨w.heap.size + 1 + 1, 0, none⟩ = some (.int .i64 z.kind) ∧ W.cell? ⟨w.heap.size + 1 + 1, 1, none⟩ = some (.int .i64 z.a) ∧ W.cell? ⟨w.heap.size + 1 + 1, 2, none⟩ = some (.int .i64 z.to) ∧ W.cell? ⟨w.heap.size + 1 + 1, 3, none⟩ = some (.int .i64 z.el) :=
  ⟨h.i_.cell 0, h.i_.cell 1, h.i_.cell 2, h.i_.cell 3, h.i_.cell 4, h.m_.cell 0, h.m_.cell 1, h.m_.cell 2, h.m_.cell 3, h.m_.cell 4, h.m_.cell 5, h.m_.cell 6, h.t_.cell 0, h.t_.cell 1, h.t_.cell 2, h.t_.cell 3⟩
end

/-- What the three readings leave. -/
def RR (w : World) (x : In) (y : Mi) (z : Tm) (lo p : Nat) (l : List Nat) (A : Option Addr) (c : Nat) (q : List Nat) (W : World) : Prop := RT w x y z W ∧ ∃ i, Cur W lo p l i 0 A c ∧ l.drop i = q
theorem RR.drewN {w : World} {x : In} {y : Mi} {z : Tm} {lo p : Nat} {l : List Nat} {A : Option Addr} {c : Nat} {q : List Nat} {W : World} (h : RR w x y z lo p l A c q W) (n : Nat) : RR w x y z lo p l A c q (W.drewN n) := ⟨h.1.drewN n, let ⟨i, hc, hd⟩ := h.2; ⟨i, hc.drewN n, hd⟩⟩
theorem RR.drew {w : World} {x : In} {y : Mi} {z : Tm} {lo p : Nat} {l : List Nat} {A : Option Addr} {c : Nat} {q : List Nat} {W : World} (h : RR w x y z lo p l A c q W) : RR w x y z lo p l A c q W.drew := h.drewN 1

/-- A valid terminator's numbers are small. -/
theorem tm_rng {r n : Int} {t : Tm} (h : eT t r n = 0) (hr : r ≤ 65535) (hn : n ≤ 65535) : (1 ≤ t.kind ∧ t.kind ≤ 3) ∧ ((t.kind != 1) = true → 0 ≤ t.a ∧ t.a ≤ 9223372036854775807) ∧ ((t.kind != 3) = true → 0 ≤ t.to ∧ t.to ≤ 9223372036854775807) ∧ ((t.kind == 2) = true → 0 ≤ t.el ∧ t.el ≤ 9223372036854775807) := by
  obtain ⟨o, q1, q2, q3, _⟩ := eT_iff.1 h
  have q1' := fR_iff.1 q1
  have q2' := fR_iff.1 q2
  have q3' := fR_iff.1 q3
  exact ⟨o, fun h => ⟨(q1' h).1, by have := q1' h; omega⟩, fun h => ⟨(q2' h).1, by have := q2' h; omega⟩, fun h => ⟨(q3' h).1, by have := q3' h; omega⟩⟩
theorem encT_pos (t : Tm) : 0 < (encT t).length := by
  unfold encT
  simp
theorem encT_byt {t : Tm} {r n : Int} (h : eT t r n = 0) (hr : r ≤ 65535) (hn : n ≤ 65535) : Byt (encT t) := by
  obtain ⟨o, q1, q2, q3, z1, z2, z3⟩ := eT_iff.1 h
  have hc : ∀ {a b : List Nat}, Byt a → Byt b → Byt (a ++ b) := fun ha hb x hx => (List.mem_append.1 hx).elim (ha x) (hb x)
  have q1' := fR_iff.1 q1
  have q2' := fR_iff.1 q2
  have q3' := fR_iff.1 q3
  have z1' := fZ_iff.1 z1
  have z2' := fZ_iff.1 z2
  have z3' := fZ_iff.1 z3
  unfold encT
  intro x hx
  rcases List.mem_cons.1 hx with rfl | hx
  · omega
  · refine hc (encO_byt ?_) (hc (encO_byt ?_) (encO_byt ?_)) x hx
    · cases hb : (t.kind != 1)
      · rw [z1' hb]; decide
      · have := q1' hb; omega
    · cases hb : (t.kind != 3)
      · rw [z2' hb]; decide
      · have := q2' hb; omega
    · cases hb : (t.kind == 2)
      · rw [z3' hb]; decide
      · have := q3' hb; omega

set_option maxRecDepth 100000 in
set_option maxHeartbeats 8000000 in
theorem InstrcodeRoundTrip_walk (a0 a1 a2 : Array Value) (a3 a4 a5 : Int) (a6 : Option Addr) (len6 cap6 : Nat) (z6 : List Int) (w : World) (w0 : IsIn w a0) (w1 : IsMi w a1) (w2 : IsTm w a2) (w3 : (Lit.int .u16 a3).wf = true) (w4 : (Lit.int .u16 a4).wf = true) (w5 : (Lit.int .u16 a5).wf = true) (w6 : IsRow .u8 w a6 len6 cap6 z6) :
    Calls Try.prog 4 #[.agg a0, .agg a1, .agg a2, .int .u16 a3, .int .u16 a4, .int .u16 a5, .slice a6 len6 cap6] w fun e w' => e = .returned (.bool true) ∧ Below w.heap.size w w' := by
  obtain ⟨x, rfl, hx⟩ := w0
  obtain ⟨y, rfl, hy⟩ := w1
  obtain ⟨z, rfl, hz⟩ := w2
  obtain ⟨r0, r1⟩ := u16_of17 w3
  obtain ⟨s0, s1⟩ := u16_of17 w4
  obtain ⟨k0, k1⟩ := u16_of17 w5
  obtain ⟨l, rfl, hby, hs, hlc, hcm⟩ := w6.bytes
  clear w3 w4 w5 w6
  obtain ⟨t1, t2, t3, t4⟩ := three_rowsI w 30 34 37 #[.int .i64 x.op, .int .i64 x.d, .int .i64 x.a, .int .i64 x.b, .int .i64 x.imm] #[.int .i64 y.op, .int .i64 y.d, .int .i64 y.a, .int .i64 y.b, .int .i64 y.imm, .int .i64 y.dst, .int .i64 y.src] #[.int .i64 z.kind, .int .i64 z.a, .int .i64 z.to, .int .i64 z.el]
  have HG : Hid (RT w x y z (((w.alloc (.cells #[.int .i64 x.op, .int .i64 x.d, .int .i64 x.a, .int .i64 x.b, .int .i64 x.imm] 30)).alloc (.cells #[.int .i64 y.op, .int .i64 y.d, .int .i64 y.a, .int .i64 y.b, .int .i64 y.imm, .int .i64 y.dst, .int .i64 y.src] 34)).alloc (.cells #[.int .i64 z.kind, .int .i64 z.a, .int .i64 z.to, .int .i64 z.el] 37))) := ⟨t1, t2, t3, t4⟩
  have HS := Lib.hid hs
  clear t1 t2 t3 t4 hs
  by_cases hlong : 1000 < l.length
  · go_enter Try.func4, Try.ntmps4
    go_wp2_with fail
    refine (awake17_any _).mono ?_
    rintro e W ⟨rfl, hb⟩
    have HG1 := Lib.hid (HG.out.below hb)
    clear hb HG
    go_wp2_with fail
    refine (awake17_any _).mono ?_
    rintro e W' ⟨rfl, hb'⟩
    have HG2 := Lib.hid (HG1.out.below hb')
    clear hb' HG1
    go_wp2
    go_ret
    exact ⟨rfl, HG2.out.blw⟩
  · have hlt : ¬ (1000 : Int) < l.length := by omega
    go_enter Try.func4, Try.ntmps4
    go_wp2_with fail
    refine (awake17_any _).mono ?_
    rintro e W1 ⟨rfl, hb⟩
    have HG1 := Lib.hid (HG.out.below hb)
    clear hb HG
    have b0 := HG1.out.i_.cell 0; have b1 := HG1.out.i_.cell 1; have b2 := HG1.out.i_.cell 2; have b3 := HG1.out.i_.cell 3; have b4 := HG1.out.i_.cell 4
    simp only [List.getElem?_toArray, List.getElem?_cons_zero, List.getElem?_cons_succ] at b0 b1 b2 b3 b4
    have d0 := HG1.out.m_.cell 0; have d1 := HG1.out.m_.cell 1; have d2 := HG1.out.m_.cell 2; have d3 := HG1.out.m_.cell 3; have d4 := HG1.out.m_.cell 4; have d5 := HG1.out.m_.cell 5; have d6 := HG1.out.m_.cell 6
    simp only [List.getElem?_toArray, List.getElem?_cons_zero, List.getElem?_cons_succ] at d0 d1 d2 d3 d4 d5 d6
    have f0 := HG1.out.t_.cell 0; have f1 := HG1.out.t_.cell 1; have f2 := HG1.out.t_.cell 2; have f3 := HG1.out.t_.cell 3
    simp only [List.getElem?_toArray, List.getElem?_cons_zero, List.getElem?_cons_succ] at f0 f1 f2 f3
    have C1 := Lib.hid (rinstr_any x a3 W1)
    by_cases hv1 : eI x a3 = 0
    case neg =>
      go_wp2_with fail
      refine C1.out.mono ?_
      rintro e W2 ⟨rfl, hb⟩
      have HG2 := Lib.hid (HG1.out.below hb)
      have dne : (eI x a3 != 0) = true := by simpa using hv1
      clear hb HG1 C1 hv1 b0 b1 b2 b3 b4 d0 d1 d2 d3 d4 d5 d6 f0 f1 f2 f3
      generalize eI x a3 = ev at *
      go_wp2
      go_ret
      exact ⟨rfl, HG2.out.blw⟩
    rw [hv1] at C1
    go_wp2_with fail
    refine C1.out.mono ?_
    rintro e W2 ⟨rfl, hb⟩
    have HG2 := Lib.hid (HG1.out.below hb)
    clear hb HG1 C1 b0 b1 b2 b3 b4 d0 d1 d2 d3 d4 d5 d6 f0 f1 f2 f3
    have b0 := HG2.out.i_.cell 0; have b1 := HG2.out.i_.cell 1; have b2 := HG2.out.i_.cell 2; have b3 := HG2.out.i_.cell 3; have b4 := HG2.out.i_.cell 4
    simp only [List.getElem?_toArray, List.getElem?_cons_zero, List.getElem?_cons_succ] at b0 b1 b2 b3 b4
    have d0 := HG2.out.m_.cell 0; have d1 := HG2.out.m_.cell 1; have d2 := HG2.out.m_.cell 2; have d3 := HG2.out.m_.cell 3; have d4 := HG2.out.m_.cell 4; have d5 := HG2.out.m_.cell 5; have d6 := HG2.out.m_.cell 6
    simp only [List.getElem?_toArray, List.getElem?_cons_zero, List.getElem?_cons_succ] at d0 d1 d2 d3 d4 d5 d6
    have f0 := HG2.out.t_.cell 0; have f1 := HG2.out.t_.cell 1; have f2 := HG2.out.t_.cell 2; have f3 := HG2.out.t_.cell 3
    simp only [List.getElem?_toArray, List.getElem?_cons_zero, List.getElem?_cons_succ] at f0 f1 f2 f3
    have C2 := Lib.hid (rminstr_any y a3 a4 W2 hy.ok)
    by_cases hv2 : eM y a3 a4 = 0
    case neg =>
      go_wp2_with fail
      refine C2.out.mono ?_
      rintro e W3 ⟨rfl, hb⟩
      have HG3 := Lib.hid (HG2.out.below hb)
      have dne : (eM y a3 a4 != 0) = true := by simpa using hv2
      clear hb HG2 C2 hv2 b0 b1 b2 b3 b4 d0 d1 d2 d3 d4 d5 d6 f0 f1 f2 f3
      generalize eM y a3 a4 = ev at *
      go_wp2
      go_ret
      exact ⟨rfl, HG3.out.blw⟩
    rw [hv2] at C2
    go_wp2_with fail
    refine C2.out.mono ?_
    rintro e W3 ⟨rfl, hb⟩
    have HG3 := Lib.hid (HG2.out.below hb)
    clear hb HG2 C2 b0 b1 b2 b3 b4 d0 d1 d2 d3 d4 d5 d6 f0 f1 f2 f3
    have b0 := HG3.out.i_.cell 0; have b1 := HG3.out.i_.cell 1; have b2 := HG3.out.i_.cell 2; have b3 := HG3.out.i_.cell 3; have b4 := HG3.out.i_.cell 4
    simp only [List.getElem?_toArray, List.getElem?_cons_zero, List.getElem?_cons_succ] at b0 b1 b2 b3 b4
    have d0 := HG3.out.m_.cell 0; have d1 := HG3.out.m_.cell 1; have d2 := HG3.out.m_.cell 2; have d3 := HG3.out.m_.cell 3; have d4 := HG3.out.m_.cell 4; have d5 := HG3.out.m_.cell 5; have d6 := HG3.out.m_.cell 6
    simp only [List.getElem?_toArray, List.getElem?_cons_zero, List.getElem?_cons_succ] at d0 d1 d2 d3 d4 d5 d6
    have f0 := HG3.out.t_.cell 0; have f1 := HG3.out.t_.cell 1; have f2 := HG3.out.t_.cell 2; have f3 := HG3.out.t_.cell 3
    simp only [List.getElem?_toArray, List.getElem?_cons_zero, List.getElem?_cons_succ] at f0 f1 f2 f3
    have C3 := Lib.hid (rterm_any z a3 a5 W3)
    by_cases hv3 : eT z a3 a5 = 0
    case neg =>
      go_wp2_with fail
      refine C3.out.mono ?_
      rintro e W4 ⟨rfl, hb⟩
      have HG4 := Lib.hid (HG3.out.below hb)
      have dne : (eT z a3 a5 != 0) = true := by simpa using hv3
      clear hb HG3 C3 hv3 b0 b1 b2 b3 b4 d0 d1 d2 d3 d4 d5 d6 f0 f1 f2 f3
      generalize eT z a3 a5 = ev at *
      go_wp2
      go_ret
      exact ⟨rfl, HG4.out.blw⟩
    rw [hv3] at C3
    go_wp2_with fail
    refine C3.out.mono ?_
    rintro e W4 ⟨rfl, hb⟩
    have HG4 := Lib.hid (HG3.out.below hb)
    clear hb HG3 C3 b0 b1 b2 b3 b4 d0 d1 d2 d3 d4 d5 d6 f0 f1 f2 f3
    -- what is known of the three
    have hv1' : eI (⟨x.op, x.d, x.a, x.b, x.imm, 0, 0⟩ : Mi).ins a3 = 0 := hv1
    have ix : InI x.imm := i64_of_wf hx.2.2.2.2
    have iy : InI y.imm := i64_of_wf hy.2.2.2.2.1
    obtain ⟨⟨ox1, ox2⟩, hokx⟩ := (eI_iff (m := (⟨x.op, x.d, x.a, x.b, x.imm, 0, 0⟩ : Mi)) (n := 0) rfl rfl).1 hv1'
    obtain ⟨⟨oy1, oy2, oy3⟩, hoky⟩ := eM_iff.1 hv2
    obtain ⟨oz, qz1, qz2, qz3⟩ := tm_rng hv3 r1 k1
    obtain ⟨gx1, gx2, gx3, gx4, gx5⟩ := hokx.rng r1 (by decide)
    obtain ⟨gy1, gy2, gy3, gy4, gy5⟩ := hoky.rng r1 s1
    dsimp only at ox1 ox2 gx1 gx2 gx3
    have P1 := Lib.hid fun (W : World) (q hi : Nat) (v : Value) (l' : List Nat) (h : Wri W q hi v l') (hm : l'.length + 100 ≤ 70368744177664) (hh : hi ≤ W.heap.size) => picputi_any h hm hh (m := (⟨x.op, x.d, x.a, x.b, x.imm, 0, 0⟩ : Mi)) rfl rfl ⟨ox1, ox2⟩ ix (fun _ => ⟨gx1.1, by show x.d ≤ _; omega⟩) (fun _ => ⟨gx2.1, by show x.a ≤ _; omega⟩) (fun _ => ⟨gx3.1, by show x.b ≤ _; omega⟩)
    have P2 := Lib.hid fun (W : World) (q hi : Nat) (v : Value) (l' : List Nat) (h : Wri W q hi v l') (hm : l'.length + 100 ≤ 70368744177664) (hh : hi ≤ W.heap.size) => picputm_any h hm hh (m := y) ⟨oy1, oy2⟩ iy (fun _ => ⟨gy1.1, by omega⟩) (fun _ => ⟨gy2.1, by omega⟩) (fun _ => ⟨gy3.1, by omega⟩) (fun _ => ⟨gy4.1, by omega⟩) (fun _ => ⟨gy5.1, by omega⟩)
    have P3 := Lib.hid fun (W : World) (q hi : Nat) (v : Value) (l' : List Nat) (h : Wri W q hi v l') (hm : l'.length + 100 ≤ 70368744177664) (hh : hi ≤ W.heap.size) => picputt_any h hm hh (t := z) oz qz1 qz2 qz3
    have Q1 := Lib.hid fun W => rputi17_any (w := W) (m := (⟨x.op, x.d, x.a, x.b, x.imm, 0, 0⟩ : Mi)) rfl rfl ⟨by show 0 ≤ x.op; omega, by show x.op < 256; omega⟩ ix (fun _ => ⟨gx1.1, by show x.d ≤ _; omega⟩) (fun _ => ⟨gx2.1, by show x.a ≤ _; omega⟩) (fun _ => ⟨gx3.1, by show x.b ≤ _; omega⟩)
    have Q2 := Lib.hid fun W => rputm17_any (w := W) (m := y) ⟨by omega, by omega⟩ iy (fun _ => ⟨gy1.1, by omega⟩) (fun _ => ⟨gy2.1, by omega⟩) (fun _ => ⟨gy3.1, by omega⟩) (fun _ => ⟨gy4.1, by omega⟩) (fun _ => ⟨gy5.1, by omega⟩)
    have Q3 := Lib.hid fun W => rputt17_any (w := W) (t := z) ⟨by omega, by omega⟩ qz1 qz2 qz3
    have RE1 := Lib.hid fun q => instrE_put (m := (⟨x.op, x.d, x.a, x.b, x.imm, 0, 0⟩ : Mi)) (regs := a3) rfl rfl hv1' ix (by omega) q
    have RE2 := Lib.hid fun q => machE_put (m := y) (regs := a3) (n := a4) hv2 iy (by omega) (by omega) q
    have RE3 := Lib.hid fun q => termE_put (t := z) (regs := a3) (n := a5) hv3 (by omega) (by omega) q
    have BY := Lib.hid (And.intro (encM_byt (m := (⟨x.op, x.d, x.a, x.b, x.imm, 0, 0⟩ : Mi)) hokx r1 (by decide) (by show x.op ≤ 18; omega) ix) (And.intro (encM_byt hoky r1 s1 oy2 iy) (encT_byt hv3 r1 k1)))
    have L1 := encM_len (⟨x.op, x.d, x.a, x.b, x.imm, 0, 0⟩ : Mi)
    have L2 := encM_len y
    have L3 := And.intro (encT_pos z) (encT_len z)
    clear hv1 hv1' hv2 hv3 ix iy ox1 ox2 hokx oy1 oy2 oy3 hoky oz qz1 qz2 qz3 gx1 gx2 gx3 gx4 gx5 gy1 gy2 gy3 gy4 gy5 hx hy hz
    obtain ⟨l1, hl1⟩ : ∃ q, q = encM (⟨x.op, x.d, x.a, x.b, x.imm, 0, 0⟩ : Mi) := ⟨_, rfl⟩
    obtain ⟨l2, hl2⟩ : ∃ q, q = encM y := ⟨_, rfl⟩
    obtain ⟨l3, hl3⟩ : ∃ q, q = encT z := ⟨_, rfl⟩
    rw [← hl1] at L1 P1 Q1 RE1 BY
    rw [← hl2] at L2 P2 Q2 RE2 BY
    rw [← hl3] at L3 P3 Q3 RE3 BY
    clear hl1 hl2 hl3
    obtain ⟨LL, hLL⟩ : ∃ q, q = l1 ++ l2 ++ l3 := ⟨_, rfl⟩
    have HLL := Lib.hid hLL
    have hlen : LL.length = l1.length + l2.length + l3.length := by rw [hLL, List.length_append, List.length_append]
    clear hLL
    have HLN := Lib.hid hlen
    have hlb : LL.length ≤ 200 := by omega
    clear hlen
    have hrs : 0 ≤ a3 ∧ a3 ≤ 65535 := ⟨r0, r1⟩
    go_upto_region 7 with fail
    -- the writer
    have hlo := HG4.out.t_.lt
    have HW := Lib.hid (Wri.new W4)
    have HG5 := Lib.hid (HG4.out.below ((Below.refl W4.heap.size W4).alloc (Nat.le_refl _) (.cells #[.slice none 0 0] 52)))
    have hz5 : W4.heap.size + 1 ≤ (W4.alloc (.cells #[.slice none 0 0] 52)).heap.size := by rw [World.size_alloc]; exact Nat.le_refl _
    clear HG4
    generalize (W4.alloc (.cells #[.slice none 0 0] 52)) = W5 at *
    generalize W4.heap.size = q at *
    have b0 := HG5.out.i_.cell 0; have b1 := HG5.out.i_.cell 1; have b2 := HG5.out.i_.cell 2; have b3 := HG5.out.i_.cell 3; have b4 := HG5.out.i_.cell 4
    simp only [List.getElem?_toArray, List.getElem?_cons_zero, List.getElem?_cons_succ] at b0 b1 b2 b3 b4
    have d0 := HG5.out.m_.cell 0; have d1 := HG5.out.m_.cell 1; have d2 := HG5.out.m_.cell 2; have d3 := HG5.out.m_.cell 3; have d4 := HG5.out.m_.cell 4; have d5 := HG5.out.m_.cell 5; have d6 := HG5.out.m_.cell 6
    simp only [List.getElem?_toArray, List.getElem?_cons_zero, List.getElem?_cons_succ] at d0 d1 d2 d3 d4 d5 d6
    have f0 := HG5.out.t_.cell 0; have f1 := HG5.out.t_.cell 1; have f2 := HG5.out.t_.cell 2; have f3 := HG5.out.t_.cell 3
    simp only [List.getElem?_toArray, List.getElem?_cons_zero, List.getElem?_cons_succ] at f0 f1 f2 f3
    go_wp2_with fail
    refine (P1.out W5 q _ _ _ HW.out (by simp) hz5).mono ?_
    rintro e W6 ⟨rfl, ⟨v1, hw⟩, hm⟩
    have HW1 := Lib.hid hw
    have HG6 := Lib.hid (HG5.out.mods hm fun k hk => by unfold From at hk; omega)
    clear hw hm HW HG5 P1 b0 b1 b2 b3 b4 d0 d1 d2 d3 d4 d5 d6 f0 f1 f2 f3
    have b0 := HG6.out.i_.cell 0; have b1 := HG6.out.i_.cell 1; have b2 := HG6.out.i_.cell 2; have b3 := HG6.out.i_.cell 3; have b4 := HG6.out.i_.cell 4
    simp only [List.getElem?_toArray, List.getElem?_cons_zero, List.getElem?_cons_succ] at b0 b1 b2 b3 b4
    have d0 := HG6.out.m_.cell 0; have d1 := HG6.out.m_.cell 1; have d2 := HG6.out.m_.cell 2; have d3 := HG6.out.m_.cell 3; have d4 := HG6.out.m_.cell 4; have d5 := HG6.out.m_.cell 5; have d6 := HG6.out.m_.cell 6
    simp only [List.getElem?_toArray, List.getElem?_cons_zero, List.getElem?_cons_succ] at d0 d1 d2 d3 d4 d5 d6
    have f0 := HG6.out.t_.cell 0; have f1 := HG6.out.t_.cell 1; have f2 := HG6.out.t_.cell 2; have f3 := HG6.out.t_.cell 3
    simp only [List.getElem?_toArray, List.getElem?_cons_zero, List.getElem?_cons_succ] at f0 f1 f2 f3
    go_wp2_with fail
    refine (P2.out W6 q _ _ _ HW1.out (by simp; omega) (Nat.le_refl _)).mono ?_
    rintro e W7 ⟨rfl, ⟨v2, hw⟩, hm⟩
    have HW2 := Lib.hid hw
    have HG7 := Lib.hid (HG6.out.mods hm fun k hk => by unfold From at hk; omega)
    clear hw hm HW1 HG6 P2 b0 b1 b2 b3 b4 d0 d1 d2 d3 d4 d5 d6 f0 f1 f2 f3
    have b0 := HG7.out.i_.cell 0; have b1 := HG7.out.i_.cell 1; have b2 := HG7.out.i_.cell 2; have b3 := HG7.out.i_.cell 3; have b4 := HG7.out.i_.cell 4
    simp only [List.getElem?_toArray, List.getElem?_cons_zero, List.getElem?_cons_succ] at b0 b1 b2 b3 b4
    have d0 := HG7.out.m_.cell 0; have d1 := HG7.out.m_.cell 1; have d2 := HG7.out.m_.cell 2; have d3 := HG7.out.m_.cell 3; have d4 := HG7.out.m_.cell 4; have d5 := HG7.out.m_.cell 5; have d6 := HG7.out.m_.cell 6
    simp only [List.getElem?_toArray, List.getElem?_cons_zero, List.getElem?_cons_succ] at d0 d1 d2 d3 d4 d5 d6
    have f0 := HG7.out.t_.cell 0; have f1 := HG7.out.t_.cell 1; have f2 := HG7.out.t_.cell 2; have f3 := HG7.out.t_.cell 3
    simp only [List.getElem?_toArray, List.getElem?_cons_zero, List.getElem?_cons_succ] at f0 f1 f2 f3
    go_wp2_with fail
    refine (P3.out W7 q _ _ _ HW2.out (by simp; omega) (Nat.le_refl _)).mono ?_
    rintro e Wt ⟨rfl, ⟨v3, hw⟩, hm⟩
    have HW3 : Hid (Wri Wt q Wt.heap.size v3 LL) := by
      show Wri _ _ _ _ _
      rw [HLL.out]
      simpa using hw
    have HG8 := Lib.hid (HG7.out.mods hm fun k hk => by unfold From at hk; omega)
    clear hw hm HW2 HG7 P3 b0 b1 b2 b3 b4 d0 d1 d2 d3 d4 d5 d6 f0 f1 f2 f3
    go_upto_region 10 with fail
    go_cut [17] from 19 (fun s17 wx => ∃ g c, s17 = .slice (some ⟨g, 0, none⟩) LL.length c ∧ Hid (ST Wt [(g, c, LL.length, LL)] wx))
    case first =>
      have HX : Hid (∀ W, Below Wt.heap.size Wt W → W.cell? ⟨w.heap.size, 0, none⟩ = some (.int .i64 x.op) ∧ W.cell? ⟨w.heap.size, 1, none⟩ = some (.int .i64 x.d) ∧ W.cell? ⟨w.heap.size, 2, none⟩ = some (.int .i64 x.a) ∧ W.cell? ⟨w.heap.size, 3, none⟩ = some (.int .i64 x.b) ∧ W.cell? ⟨w.heap.size, 4, none⟩ = some (.int .i64 x.imm) ∧ W.cell? ⟨w.heap.size + 1, 0, none⟩ = some (.int .i64 y.op) ∧ W.cell? ⟨w.heap.size + 1, 1, none⟩ = some (.int .i64 y.d) ∧ W.cell? ⟨w.heap.size + 1, 2, none⟩ = some (.int .i64 y.a) ∧ W.cell? ⟨w.heap.size + 1, 3, none⟩ = some (.int .i64 y.b) ∧ W.cell? ⟨w.heap.size + 1, 4, none⟩ = some (.int .i64 y.imm) ∧ W.cell? ⟨w.heap.size + 1, 5, none⟩ = some (.int .i64 y.dst) ∧ W.cell? ⟨w.heap.size + 1, 6, none⟩ = some (.int .i64 y.src) ∧ W.cell? ⟨w.heap.size + 1 + 1, 0, none⟩ = some (.int .i64 z.kind) ∧ W.cell? ⟨w.heap.size + 1 + 1, 1, none⟩ = some (.int .i64 z.a) ∧ W.cell? ⟨w.heap.size + 1 + 1, 2, none⟩ = some (.int .i64 z.to) ∧ W.cell? ⟨w.heap.size + 1 + 1, 3, none⟩ = some (.int .i64 z.el)) := fun W hb => (HG8.out.below hb).cells
      have C1 : Hid (∀ W L, ST Wt L W → Calls Try.prog 22 #[.agg #[.int .i64 x.op, .int .i64 x.d, .int .i64 x.a, .int .i64 x.b, .int .i64 x.imm]] W fun e w' => ∃ g c, e = .returned (.slice (some ⟨g, 0, none⟩) l1.length c) ∧ ST Wt (L ++ [(g, c, l1.length, l1)]) w') := fun W L h => (Q1.out W).mono (by
        rintro e w' ⟨A, c, rfl, ho, hb⟩
        obtain ⟨g, cap, hv, _⟩ := ho.form (by omega)
        rw [hv] at ho ⊢
        exact ⟨g, cap, rfl, h.call hb ho⟩)
      have C2 : Hid (∀ W L, ST Wt L W → Calls Try.prog 23 #[.agg #[.int .i64 y.op, .int .i64 y.d, .int .i64 y.a, .int .i64 y.b, .int .i64 y.imm, .int .i64 y.dst, .int .i64 y.src]] W fun e w' => ∃ g c, e = .returned (.slice (some ⟨g, 0, none⟩) l2.length c) ∧ ST Wt (L ++ [(g, c, l2.length, l2)]) w') := fun W L h => (Q2.out W).mono (by
        rintro e w' ⟨A, c, rfl, ho, hb⟩
        obtain ⟨g, cap, hv, _⟩ := ho.form (by omega)
        rw [hv] at ho ⊢
        exact ⟨g, cap, rfl, h.call hb ho⟩)
      have C3 : Hid (∀ W L, ST Wt L W → Calls Try.prog 24 #[.agg #[.int .i64 z.kind, .int .i64 z.a, .int .i64 z.to, .int .i64 z.el]] W fun e w' => ∃ g c, e = .returned (.slice (some ⟨g, 0, none⟩) l3.length c) ∧ ST Wt (L ++ [(g, c, l3.length, l3)]) w') := fun W L h => (Q3.out W).mono (by
        rintro e w' ⟨A, c, rfl, ho, hb⟩
        obtain ⟨g, cap, hv, _⟩ := ho.form (by omega)
        rw [hv] at ho ⊢
        exact ⟨g, cap, rfl, h.call hb ho⟩)
      obtain ⟨i0, hi0, hz0, hz1, hz2⟩ := info_parts infoU8
      have hT := ST.new Wt
      have b0 := HG8.out.i_.cell 0; have b1 := HG8.out.i_.cell 1; have b2 := HG8.out.i_.cell 2; have b3 := HG8.out.i_.cell 3; have b4 := HG8.out.i_.cell 4
      simp only [List.getElem?_toArray, List.getElem?_cons_zero, List.getElem?_cons_succ] at b0 b1 b2 b3 b4
      have d0 := HG8.out.m_.cell 0; have d1 := HG8.out.m_.cell 1; have d2 := HG8.out.m_.cell 2; have d3 := HG8.out.m_.cell 3; have d4 := HG8.out.m_.cell 4; have d5 := HG8.out.m_.cell 5; have d6 := HG8.out.m_.cell 6
      simp only [List.getElem?_toArray, List.getElem?_cons_zero, List.getElem?_cons_succ] at d0 d1 d2 d3 d4 d5 d6
      have f0 := HG8.out.t_.cell 0; have f1 := HG8.out.t_.cell 1; have f2 := HG8.out.t_.cell 2; have f3 := HG8.out.t_.cell 3
      simp only [List.getElem?_toArray, List.getElem?_cons_zero, List.getElem?_cons_succ] at f0 f1 f2 f3
      clear HG8 HW3 HS Q1 Q2 Q3 RE1 RE2 RE3 BY hby hlc hcm hlt hlong
      go_wp2_with fail
      go_region_held_law (fun w' => w'.cell? ⟨w.heap.size, 0, none⟩ = some (.int .i64 x.op) ∧ w'.cell? ⟨w.heap.size, 1, none⟩ = some (.int .i64 x.d) ∧ w'.cell? ⟨w.heap.size, 2, none⟩ = some (.int .i64 x.a) ∧ w'.cell? ⟨w.heap.size, 3, none⟩ = some (.int .i64 x.b) ∧ w'.cell? ⟨w.heap.size, 4, none⟩ = some (.int .i64 x.imm) ∧ w'.cell? ⟨w.heap.size + 1, 0, none⟩ = some (.int .i64 y.op) ∧ w'.cell? ⟨w.heap.size + 1, 1, none⟩ = some (.int .i64 y.d) ∧ w'.cell? ⟨w.heap.size + 1, 2, none⟩ = some (.int .i64 y.a) ∧ w'.cell? ⟨w.heap.size + 1, 3, none⟩ = some (.int .i64 y.b) ∧ w'.cell? ⟨w.heap.size + 1, 4, none⟩ = some (.int .i64 y.imm) ∧ w'.cell? ⟨w.heap.size + 1, 5, none⟩ = some (.int .i64 y.dst) ∧ w'.cell? ⟨w.heap.size + 1, 6, none⟩ = some (.int .i64 y.src) ∧ w'.cell? ⟨w.heap.size + 1 + 1, 0, none⟩ = some (.int .i64 z.kind) ∧ w'.cell? ⟨w.heap.size + 1 + 1, 1, none⟩ = some (.int .i64 z.a) ∧ w'.cell? ⟨w.heap.size + 1 + 1, 2, none⟩ = some (.int .i64 z.to) ∧ w'.cell? ⟨w.heap.size + 1 + 1, 3, none⟩ = some (.int .i64 z.el)) (first | exact HX.out _ hT.blw | exact HX.out _ hT.drew.blw | exact HX.out _ (hT.drewN _).blw) (first
        | (go_at_call 22; go_must ((with_reducible refine (C1.out _ _ (by first | exact hT | exact hT.drew | exact hT.drewN _)).mono ?_); rintro e Wa ⟨g1, ca, rfl, hT⟩; simp only [List.nil_append, List.cons_append] at hT))
        | (go_at_call 23; go_must ((with_reducible refine (C2.out _ _ (by first | exact hT | exact hT.drew | exact hT.drewN _)).mono ?_); rintro e Wa ⟨g2, cb, rfl, hT⟩; simp only [List.nil_append, List.cons_append] at hT))
        | (go_at_call 24; go_must ((with_reducible refine (C3.out _ _ (by first | exact hT | exact hT.drew | exact hT.drewN _)).mono ?_); rintro e Wa ⟨g3, cc, rfl, hT⟩; simp only [List.nil_append, List.cons_append] at hT))
        | (refine step_append_lies _ rfl (.tmp 61) (.tmp 63) 22 rfl Wt.heap.size 5 i0 (.int .u8 0) 1 1 Try.underlying22 hi0 hz0 hz1 hz2 rfl (by decide) _ l1.length (bts l1) rfl hT.fst ⟨g2, 0, none⟩ _ _ (bts l2) rfl (by rw [bts_length, Nat.mul_one]) hT.snd.news (bts_one _) (by omega) (by unfold maxLen; omega) (by omega) hT.blw.size _ rfl ?_; intro g4 cd W4 ho4 hg4 hat4 hlt4; have hT := hT.app ho4 hg4 hat4; clear ho4 hg4 hat4 hlt4)
        | (refine step_append_lies _ rfl (.tmp 64) (.tmp 66) 22 rfl Wt.heap.size 5 i0 (.int .u8 0) 1 1 Try.underlying22 hi0 hz0 hz1 hz2 rfl (by decide) _ (l1.length + l2.length) (bts (l1 ++ l2)) rfl hT.fst ⟨g3, 0, none⟩ _ _ (bts l3) rfl (by rw [bts_length, Nat.mul_one]) hT.snd.news (bts_one _) (by omega) (by unfold maxLen; omega) (by omega) hT.blw.size _ rfl ?_; intro g5 ce W5 ho5 hg5 hat5 hlt5; have hT := hT.app ho5 hg5 hat5; clear ho5 hg5 hat5 hlt5)
        )
      simp only [List.getElem_toArray, List.getElem_cons_succ, List.getElem_cons_zero, List.set_cons_succ, List.set_cons_zero]
      go_wp2_with fail
      go_meet
      case rel => exact ⟨g5, ce, by rw [HLN.out], by rw [HLN.out, HLL.out]; exact hT⟩
    case rest =>
      obtain ⟨g, c, rfl, hcT⟩ := hcut
      have hb := hcT.out.blw
      have HG9 := Lib.hid (HG8.out.below hb)
      have HW9 := Lib.hid (HW3.out.mods (S := No) (Mods.of_below hb) fun _ hk => hk.elim)
      have HO9 := Lib.hid (own_base17 hcT.out.fst (Nat.zero_le _))
      have hg9 := hcT.out.fst.lt.2
      clear hcT hb HG8 HW3
      dsimp only at HO9 hg9
      go_wp2_with fail
      refine (out_any HW9.out (by omega)).mono ?_
      rintro e Wo ⟨Ao, co, rfl, ho, hb⟩
      have HG10 := Lib.hid (HG9.out.below hb)
      have HO10 := Lib.hid ((Mods.of_below (S := No) hb).own HO9.out fun _ _ hk => hk)
      have hso := Sees.of_own ho
      have hsw := Sees.of_own HO10.out
      have CSM := Lib.hid (same_any Wo.heap.size Ao (some ⟨g, 0, none⟩) LL LL co c Wo hso hsw (by unfold maxLen; omega) (by unfold maxLen; omega))
      rw [sameB_self] at CSM
      clear hso ho hb HG9 HW9 HO9
      go_wp2_with fail
      refine CSM.out.mono ?_
      rintro e Wp ⟨rfl, n9, h9⟩
      have HG11 : Hid (RT w x y z Wp) := h9 ▸ HG10.out.drewN n9
      have hsw' : Sees Wp Wp.heap.size (some ⟨g, 0, none⟩) (bts LL) := h9 ▸ hsw
      have hsl : Sees Wp Wp.heap.size a6 (bts l) := (HS.out.below HG11.out.blw).more HG11.out.blw.size
      have CAD := Lib.hid (add_any (some ⟨g, 0, none⟩) a6 LL l c cap6 Wp hsw' hsl (by omega))
      clear h9 CSM hsw hsw' hsl HG10 HO10
      go_wp2_with fail
      refine CAD.out.mono ?_
      rintro e Wq ⟨Aq, cq, rfl, ho, hb⟩
      have HG12 := Lib.hid (HG11.out.below hb)
      have hsq := Sees.of_own ho
      have hbyt : Byt (LL ++ l) := fun v hv => by
        rw [HLL.out] at hv
        simp only [List.mem_append] at hv
        rcases hv with ((hv | hv) | hv) | hv
        · exact BY.out.1 v hv
        · exact BY.out.2.1 v hv
        · exact BY.out.2.2 v hv
        · exact hby v hv
      have hln : (LL ++ l).length = LL.length + l.length := List.length_append
      have CN0 := new_any Aq (LL ++ l) Wq.heap.size cq Wq hsq (Nat.le_refl _) hbyt (by omega)
      rw [hln] at CN0
      have CN := Lib.hid CN0
      clear hsq ho hb HG11 CAD CN0
      go_wp2_with fail
      refine CN.out.mono ?_
      rintro e Wn ⟨p, A, cc, rfl, hp, hc, hb⟩
      have HG13 := Lib.hid (HG12.out.below hb)
      have hpt : w.heap.size + 1 + 1 < p := by have := HG12.out.t_.lt; omega
      have hdr : (LL ++ l).drop 0 = l1 ++ (l2 ++ (l3 ++ l)) := by rw [HLL.out]; simp
      have K1 : Hid (∀ W, RR w x y z Wq.heap.size p (LL ++ l) A cc (l1 ++ (l2 ++ (l3 ++ l))) W → Calls Try.prog 9 #[.pointer (some ⟨p, 0, none⟩), .int .i64 a3] W fun e w' => e = .returned (.agg #[.int .i64 x.op, .int .i64 x.d, .int .i64 x.a, .int .i64 x.b, .int .i64 x.imm]) ∧ RR w x y z Wq.heap.size p (LL ++ l) A cc (l2 ++ (l3 ++ l)) w') := fun W ⟨hg, i, hi, hd⟩ =>
        (picinstr_any hi a3 hrs (m := (⟨x.op, x.d, x.a, x.b, x.imm, 0, 0⟩ : Mi)) (t := ⟨l2 ++ (l3 ++ l), 0⟩) (by rw [hd]; exact RE1.out _)).mono (by
          rintro e w' ⟨rfl, hm, i', hi', hd'⟩
          exact ⟨rfl, hg.mods hm (fun k hk => by unfold Is at hk; omega), i', hi', hd' rfl⟩)
      have K2 : Hid (∀ W, RR w x y z Wq.heap.size p (LL ++ l) A cc (l2 ++ (l3 ++ l)) W → Calls Try.prog 10 #[.pointer (some ⟨p, 0, none⟩), .int .i64 a3, .int .i64 a4] W fun e w' => e = .returned (.agg #[.int .i64 y.op, .int .i64 y.d, .int .i64 y.a, .int .i64 y.b, .int .i64 y.imm, .int .i64 y.dst, .int .i64 y.src]) ∧ RR w x y z Wq.heap.size p (LL ++ l) A cc (l3 ++ l) w') := fun W ⟨hg, i, hi, hd⟩ =>
        (picmach_any hi a3 a4 hrs ⟨s0, s1⟩ (m := y) (t := ⟨l3 ++ l, 0⟩) (by rw [hd]; exact RE2.out _)).mono (by
          rintro e w' ⟨rfl, hm, i', hi', hd'⟩
          exact ⟨rfl, hg.mods hm (fun k hk => by unfold Is at hk; omega), i', hi', hd' rfl⟩)
      have K3 : Hid (∀ W, RR w x y z Wq.heap.size p (LL ++ l) A cc (l3 ++ l) W → Calls Try.prog 11 #[.pointer (some ⟨p, 0, none⟩), .int .i64 a3, .int .i64 a5] W fun e w' => e = .returned (.agg #[.int .i64 z.kind, .int .i64 z.a, .int .i64 z.to, .int .i64 z.el]) ∧ RR w x y z Wq.heap.size p (LL ++ l) A cc l w') := fun W ⟨hg, i, hi, hd⟩ =>
        (picterm_any hi a3 a5 hrs ⟨k0, k1⟩ (m := z) (t := ⟨l, 0⟩) (by rw [hd]; exact RE3.out _)).mono (by
          rintro e w' ⟨rfl, hm, i', hi', hd'⟩
          exact ⟨rfl, hg.mods hm (fun k hk => by unfold Is at hk; omega), i', hi', hd' rfl⟩)
      have K4 : Hid (∀ W, RR w x y z Wq.heap.size p (LL ++ l) A cc l W → Calls Try.prog 28 #[.pointer (some ⟨p, 0, none⟩)] W fun e w' => e = .returned (.int .i64 0) ∧ RR w x y z Wq.heap.size p (LL ++ l) A cc l w') := fun W ⟨hg, i, hi, hd⟩ =>
        (err_any hi).mono (by
          rintro e w' ⟨rfl, rfl⟩
          exact ⟨rfl, hg, i, hi, hd⟩)
      have K5 : Hid (∀ W, RR w x y z Wq.heap.size p (LL ++ l) A cc l W → Calls Try.prog 29 #[.pointer (some ⟨p, 0, none⟩)] W fun e w' => e = .returned (.int .i64 (l.length : Int)) ∧ RR w x y z Wq.heap.size p (LL ++ l) A cc l w') := fun W ⟨hg, i, hi, hd⟩ =>
        (left_any hi).mono (by
          rintro e w' ⟨rfl, n, rfl⟩
          have hle := hi.le
          have hdl := congrArg List.length hd
          rw [List.length_drop] at hdl
          refine ⟨by rw [leftS_ok, show (((LL ++ l).length : Nat) : Int) - (i : Int) = (l.length : Int) by omega], hg.drewN n, i, hi.drewN n, hd⟩)
      have hG : RR w x y z Wq.heap.size p (LL ++ l) A cc (l1 ++ (l2 ++ (l3 ++ l))) Wn := ⟨HG13.out, 0, hc, hdr⟩
      have e1 : ∀ v : Int, (v == v) = true := fun v => beq_self_eq_true v
      have hw4 : IntKind.i64.wrap a4 = a4 := by rw [IntKind.wrap_i64]; omega
      have hw5 : IntKind.i64.wrap a5 = a5 := by rw [IntKind.wrap_i64]; omega
      have b0 := HG13.out.i_.cell 0; have b1 := HG13.out.i_.cell 1; have b2 := HG13.out.i_.cell 2; have b3 := HG13.out.i_.cell 3; have b4 := HG13.out.i_.cell 4
      simp only [List.getElem?_toArray, List.getElem?_cons_zero, List.getElem?_cons_succ] at b0 b1 b2 b3 b4
      have d0 := HG13.out.m_.cell 0; have d1 := HG13.out.m_.cell 1; have d2 := HG13.out.m_.cell 2; have d3 := HG13.out.m_.cell 3; have d4 := HG13.out.m_.cell 4; have d5 := HG13.out.m_.cell 5; have d6 := HG13.out.m_.cell 6
      simp only [List.getElem?_toArray, List.getElem?_cons_zero, List.getElem?_cons_succ] at d0 d1 d2 d3 d4 d5 d6
      have f0 := HG13.out.t_.cell 0; have f1 := HG13.out.t_.cell 1; have f2 := HG13.out.t_.cell 2; have f3 := HG13.out.t_.cell 3
      simp only [List.getElem?_toArray, List.getElem?_cons_zero, List.getElem?_cons_succ] at f0 f1 f2 f3
      clear hp hc hb hdr HG12 HG13 CN BY RE1 RE2 RE3 Q1 Q2 Q3 HS hbyt
      go_wp2_with fail
      go_region_held3 (fun w' => w'.cell? ⟨w.heap.size, 0, none⟩ = some (.int .i64 x.op) ∧ w'.cell? ⟨w.heap.size, 1, none⟩ = some (.int .i64 x.d) ∧ w'.cell? ⟨w.heap.size, 2, none⟩ = some (.int .i64 x.a) ∧ w'.cell? ⟨w.heap.size, 3, none⟩ = some (.int .i64 x.b) ∧ w'.cell? ⟨w.heap.size, 4, none⟩ = some (.int .i64 x.imm) ∧ w'.cell? ⟨w.heap.size + 1, 0, none⟩ = some (.int .i64 y.op) ∧ w'.cell? ⟨w.heap.size + 1, 1, none⟩ = some (.int .i64 y.d) ∧ w'.cell? ⟨w.heap.size + 1, 2, none⟩ = some (.int .i64 y.a) ∧ w'.cell? ⟨w.heap.size + 1, 3, none⟩ = some (.int .i64 y.b) ∧ w'.cell? ⟨w.heap.size + 1, 4, none⟩ = some (.int .i64 y.imm) ∧ w'.cell? ⟨w.heap.size + 1, 5, none⟩ = some (.int .i64 y.dst) ∧ w'.cell? ⟨w.heap.size + 1, 6, none⟩ = some (.int .i64 y.src) ∧ w'.cell? ⟨w.heap.size + 1 + 1, 0, none⟩ = some (.int .i64 z.kind) ∧ w'.cell? ⟨w.heap.size + 1 + 1, 1, none⟩ = some (.int .i64 z.a) ∧ w'.cell? ⟨w.heap.size + 1 + 1, 2, none⟩ = some (.int .i64 z.to) ∧ w'.cell? ⟨w.heap.size + 1 + 1, 3, none⟩ = some (.int .i64 z.el)) (first | exact hG.1.cells | exact hG.drew.1.cells | exact (hG.drewN _).1.cells) (first
        | (go_at_call 9; go_must ((with_reducible refine (K1.out _ (by first | exact hG | exact hG.drew | exact hG.drewN _)).mono ?_); rintro e Wa ⟨rfl, hG⟩))
        | (go_at_call 10; go_must ((with_reducible refine (K2.out _ (by first | exact hG | exact hG.drew | exact hG.drewN _)).mono ?_); rintro e Wa ⟨rfl, hG⟩))
        | (go_at_call 11; go_must ((with_reducible refine (K3.out _ (by first | exact hG | exact hG.drew | exact hG.drewN _)).mono ?_); rintro e Wa ⟨rfl, hG⟩))
        | (go_at_call 28; go_must ((with_reducible refine (K4.out _ (by first | exact hG | exact hG.drew | exact hG.drewN _)).mono ?_); rintro e Wa ⟨rfl, hG⟩))
        | (go_at_call 29; go_must ((with_reducible refine (K5.out _ (by first | exact hG | exact hG.drew | exact hG.drewN _)).mono ?_); rintro e Wa ⟨rfl, hG⟩)))
      go_wp2
      go_ret
      exact ⟨rfl, hG.1.blw⟩

end Go.Proofs.Ytacmgfndmolnfaa
