/-
  The reference of layer 17: Mach, Instr (texts made by wip/lab/genicmach.py).
-/
import Derived.Test.YtkapmfopfddmbaaIcRead
namespace Go.Proofs.Ytkapmfopfddmbaa
open Go.RowKit
set_option linter.unusedVariables false
set_option linter.unusedSimpArgs false

theorem Row.put5i {W : World} {p : Nat} {T : TypeId} {z0 z1 z2 z3 z4 : Value} (h : Row W p T #[z0, z1, z2, z3, z4]) (a0 a1 a2 a3 a4 : Value) :
    Row (((((W.setCell ⟨p, 0, none⟩ a0).setCell ⟨p, 1, none⟩ a1).setCell ⟨p, 2, none⟩ a2).setCell ⟨p, 3, none⟩ a3).setCell ⟨p, 4, none⟩ a4) p T #[a0, a1, a2, a3, a4] := by
  have q0 : Row _ p T #[a0, z1, z2, z3, z4] := h.put 0 a0
  have q1 : Row _ p T #[a0, a1, z2, z3, z4] := q0.put 1 a1
  have q2 : Row _ p T #[a0, a1, a2, z3, z4] := q1.put 2 a2
  have q3 : Row _ p T #[a0, a1, a2, a3, z4] := q2.put 3 a3
  exact q3.put 4 a4

theorem mods5i (W : World) (p : Nat) (a0 a1 a2 a3 a4 : Value) : Mods (Is p) W (((((W.setCell ⟨p, 0, none⟩ a0).setCell ⟨p, 1, none⟩ a1).setCell ⟨p, 2, none⟩ a2).setCell ⟨p, 3, none⟩ a3).setCell ⟨p, 4, none⟩ a4) :=
  (((((Mods.refl _ W).put 0 a0).put 1 a1).put 2 a2).put 3 a3).put 4 a4

/-- The blocks of two results. -/
structure FiM (w W : World) : Prop where
  blw : Below w.heap.size w W
  z8 : Row W (w.heap.size + 1) 97 #[.int .i64 0, .int .i64 0, .int .i64 0, .int .i64 0, .int .i64 0, .int .i64 0, .int .i64 0]
  z9 : Row W (w.heap.size + 1 + 1) 55 #[.slice none 0 0, .int .i64 0]

structure FiI (w W : World) : Prop where
  blw : Below w.heap.size w W
  z8 : Row W (w.heap.size + 1) 92 #[.int .i64 0, .int .i64 0, .int .i64 0, .int .i64 0, .int .i64 0]
  z9 : Row W (w.heap.size + 1 + 1) 55 #[.slice none 0 0, .int .i64 0]

theorem FiM.next {w W W' : World} (h : FiM w W) (hb : Below W.heap.size W W') : FiM w W' := ⟨h.blw.trans (hb.mono h.blw.size), h.z8.below hb h.z8.lt, h.z9.below hb h.z9.lt⟩

theorem FiI.next {w W W' : World} (h : FiI w W) (hb : Below W.heap.size W W') : FiI w W' := ⟨h.blw.trans (hb.mono h.blw.size), h.z8.below hb h.z8.lt, h.z9.below hb h.z9.lt⟩

theorem FiM.fin {w W : World} (h : FiM w W) (m' : Mi) (t' : Ip) (A' : Option Addr) (c' : Nat) :
    Row (((((((((W.setCell ⟨w.heap.size + 1, 0, none⟩ (.int .i64 m'.op)).setCell ⟨w.heap.size + 1, 1, none⟩ (.int .i64 m'.d)).setCell ⟨w.heap.size + 1, 2, none⟩ (.int .i64 m'.a)).setCell ⟨w.heap.size + 1, 3, none⟩ (.int .i64 m'.b)).setCell ⟨w.heap.size + 1, 4, none⟩ (.int .i64 m'.imm)).setCell ⟨w.heap.size + 1, 5, none⟩ (.int .i64 m'.dst)).setCell ⟨w.heap.size + 1, 6, none⟩ (.int .i64 m'.src)).setCell ⟨w.heap.size + 1 + 1, 0, none⟩ (.slice A' t'.rest.length c')).setCell ⟨w.heap.size + 1 + 1, 1, none⟩ (.int .i64 t'.err)) (w.heap.size + 1) 97 #[.int .i64 m'.op, .int .i64 m'.d, .int .i64 m'.a, .int .i64 m'.b, .int .i64 m'.imm, .int .i64 m'.dst, .int .i64 m'.src] ∧ Row (((((((((W.setCell ⟨w.heap.size + 1, 0, none⟩ (.int .i64 m'.op)).setCell ⟨w.heap.size + 1, 1, none⟩ (.int .i64 m'.d)).setCell ⟨w.heap.size + 1, 2, none⟩ (.int .i64 m'.a)).setCell ⟨w.heap.size + 1, 3, none⟩ (.int .i64 m'.b)).setCell ⟨w.heap.size + 1, 4, none⟩ (.int .i64 m'.imm)).setCell ⟨w.heap.size + 1, 5, none⟩ (.int .i64 m'.dst)).setCell ⟨w.heap.size + 1, 6, none⟩ (.int .i64 m'.src)).setCell ⟨w.heap.size + 1 + 1, 0, none⟩ (.slice A' t'.rest.length c')).setCell ⟨w.heap.size + 1 + 1, 1, none⟩ (.int .i64 t'.err)) (w.heap.size + 1 + 1) 55 #[.slice A' t'.rest.length c', .int .i64 t'.err] ∧ Below w.heap.size W (((((((((W.setCell ⟨w.heap.size + 1, 0, none⟩ (.int .i64 m'.op)).setCell ⟨w.heap.size + 1, 1, none⟩ (.int .i64 m'.d)).setCell ⟨w.heap.size + 1, 2, none⟩ (.int .i64 m'.a)).setCell ⟨w.heap.size + 1, 3, none⟩ (.int .i64 m'.b)).setCell ⟨w.heap.size + 1, 4, none⟩ (.int .i64 m'.imm)).setCell ⟨w.heap.size + 1, 5, none⟩ (.int .i64 m'.dst)).setCell ⟨w.heap.size + 1, 6, none⟩ (.int .i64 m'.src)).setCell ⟨w.heap.size + 1 + 1, 0, none⟩ (.slice A' t'.rest.length c')).setCell ⟨w.heap.size + 1 + 1, 1, none⟩ (.int .i64 t'.err)) := by
  have h8 := h.z8.put7i (.int .i64 m'.op) (.int .i64 m'.d) (.int .i64 m'.a) (.int .i64 m'.b) (.int .i64 m'.imm) (.int .i64 m'.dst) (.int .i64 m'.src)
  have hm := mods7i W (w.heap.size + 1) (.int .i64 m'.op) (.int .i64 m'.d) (.int .i64 m'.a) (.int .i64 m'.b) (.int .i64 m'.imm) (.int .i64 m'.dst) (.int .i64 m'.src)
  have h9 := h.z9.mods hm (fun e => by have : w.heap.size + 1 + 1 = w.heap.size + 1 := e; omega)
  have hw := hm.below (B := w.heap.size) h.blw.size (fun k hk => by have : k = w.heap.size + 1 := hk; omega)
  refine ⟨(h8.far (q := ⟨w.heap.size + 1 + 1, 0, none⟩) (by show _ ≠ w.heap.size + 1 + 1; omega) _).far (q := ⟨w.heap.size + 1 + 1, 1, none⟩) (by show _ ≠ w.heap.size + 1 + 1; omega) _, ?_, (hw.setCell (p := ⟨w.heap.size + 1 + 1, 0, none⟩) (by show _ ≤ w.heap.size + 1 + 1; omega) _).setCell (p := ⟨w.heap.size + 1 + 1, 1, none⟩) (by show _ ≤ w.heap.size + 1 + 1; omega) _⟩
  exact (h9.put 0 (.slice A' t'.rest.length c')).put 1 (.int .i64 t'.err)

theorem FiI.fin {w W : World} (h : FiI w W) (m' : Mi) (t' : Ip) (A' : Option Addr) (c' : Nat) :
    Row (((((((W.setCell ⟨w.heap.size + 1, 0, none⟩ (.int .i64 m'.op)).setCell ⟨w.heap.size + 1, 1, none⟩ (.int .i64 m'.d)).setCell ⟨w.heap.size + 1, 2, none⟩ (.int .i64 m'.a)).setCell ⟨w.heap.size + 1, 3, none⟩ (.int .i64 m'.b)).setCell ⟨w.heap.size + 1, 4, none⟩ (.int .i64 m'.imm)).setCell ⟨w.heap.size + 1 + 1, 0, none⟩ (.slice A' t'.rest.length c')).setCell ⟨w.heap.size + 1 + 1, 1, none⟩ (.int .i64 t'.err)) (w.heap.size + 1) 92 #[.int .i64 m'.op, .int .i64 m'.d, .int .i64 m'.a, .int .i64 m'.b, .int .i64 m'.imm] ∧ Row (((((((W.setCell ⟨w.heap.size + 1, 0, none⟩ (.int .i64 m'.op)).setCell ⟨w.heap.size + 1, 1, none⟩ (.int .i64 m'.d)).setCell ⟨w.heap.size + 1, 2, none⟩ (.int .i64 m'.a)).setCell ⟨w.heap.size + 1, 3, none⟩ (.int .i64 m'.b)).setCell ⟨w.heap.size + 1, 4, none⟩ (.int .i64 m'.imm)).setCell ⟨w.heap.size + 1 + 1, 0, none⟩ (.slice A' t'.rest.length c')).setCell ⟨w.heap.size + 1 + 1, 1, none⟩ (.int .i64 t'.err)) (w.heap.size + 1 + 1) 55 #[.slice A' t'.rest.length c', .int .i64 t'.err] ∧ Below w.heap.size W (((((((W.setCell ⟨w.heap.size + 1, 0, none⟩ (.int .i64 m'.op)).setCell ⟨w.heap.size + 1, 1, none⟩ (.int .i64 m'.d)).setCell ⟨w.heap.size + 1, 2, none⟩ (.int .i64 m'.a)).setCell ⟨w.heap.size + 1, 3, none⟩ (.int .i64 m'.b)).setCell ⟨w.heap.size + 1, 4, none⟩ (.int .i64 m'.imm)).setCell ⟨w.heap.size + 1 + 1, 0, none⟩ (.slice A' t'.rest.length c')).setCell ⟨w.heap.size + 1 + 1, 1, none⟩ (.int .i64 t'.err)) := by
  have h8 := h.z8.put5i (.int .i64 m'.op) (.int .i64 m'.d) (.int .i64 m'.a) (.int .i64 m'.b) (.int .i64 m'.imm)
  have hm := mods5i W (w.heap.size + 1) (.int .i64 m'.op) (.int .i64 m'.d) (.int .i64 m'.a) (.int .i64 m'.b) (.int .i64 m'.imm)
  have h9 := h.z9.mods hm (fun e => by have : w.heap.size + 1 + 1 = w.heap.size + 1 := e; omega)
  have hw := hm.below (B := w.heap.size) h.blw.size (fun k hk => by have : k = w.heap.size + 1 := hk; omega)
  refine ⟨(h8.far (q := ⟨w.heap.size + 1 + 1, 0, none⟩) (by show _ ≠ w.heap.size + 1 + 1; omega) _).far (q := ⟨w.heap.size + 1 + 1, 1, none⟩) (by show _ ≠ w.heap.size + 1 + 1; omega) _, ?_, (hw.setCell (p := ⟨w.heap.size + 1 + 1, 0, none⟩) (by show _ ≤ w.heap.size + 1 + 1; omega) _).setCell (p := ⟨w.heap.size + 1 + 1, 1, none⟩) (by show _ ≤ w.heap.size + 1 + 1; omega) _⟩
  exact (h9.put 0 (.slice A' t'.rest.length c')).put 1 (.int .i64 t'.err)

set_option maxRecDepth 100000 in
set_option maxHeartbeats 8000000 in
theorem rmach17_any {w : World} {B : Nat} {A : Option Addr} {c : Nat} {s : Ip} (r n : Int) (h : IpV w B A c s) (hB : B ≤ w.heap.size) (hr : 0 ≤ r ∧ r ≤ 4611686018427387904) :
    Calls Try.prog 50 #[.agg #[.slice A s.rest.length c, .int .i64 s.err], .int .i64 r, .int .i64 n] w (RQM w B (machE r n s).1 (machE r n s).2) := by
  have HBB := Lib.hid hB
  have hb1 := (Below.refl w.heap.size w).alloc (Nat.le_refl _) (.cells #[.slice A s.rest.length c, .int .i64 s.err] 55)
  have hb2 := hb1.alloc hb1.size (.cells #[.int .i64 0, .int .i64 0, .int .i64 0, .int .i64 0, .int .i64 0, .int .i64 0, .int .i64 0] 97)
  have hb3 := hb2.alloc hb2.size (.cells #[.slice none 0 0, .int .i64 0] 55)
  have q1 := ((Row.new w 55 #[.slice A s.rest.length c, .int .i64 s.err]).alloc (.cells #[.int .i64 0, .int .i64 0, .int .i64 0, .int .i64 0, .int .i64 0, .int .i64 0, .int .i64 0] 97)).alloc (.cells #[.slice none 0 0, .int .i64 0] 55)
  have q2 := (Row.new (w.alloc (.cells #[.slice A s.rest.length c, .int .i64 s.err] 55)) 97 #[.int .i64 0, .int .i64 0, .int .i64 0, .int .i64 0, .int .i64 0, .int .i64 0, .int .i64 0]).alloc (.cells #[.slice none 0 0, .int .i64 0] 55)
  have q3 := Row.new ((w.alloc (.cells #[.slice A s.rest.length c, .int .i64 s.err] 55)).alloc (.cells #[.int .i64 0, .int .i64 0, .int .i64 0, .int .i64 0, .int .i64 0, .int .i64 0, .int .i64 0] 97)) 55 #[.slice none 0 0, .int .i64 0]
  simp only [World.size_alloc] at q2 q3
  have HF : Hid (FiM w (((w.alloc (.cells #[.slice A s.rest.length c, .int .i64 s.err] 55)).alloc (.cells #[.int .i64 0, .int .i64 0, .int .i64 0, .int .i64 0, .int .i64 0, .int .i64 0, .int .i64 0] 97)).alloc (.cells #[.slice none 0 0, .int .i64 0] 55))) := ⟨hb3, q2, q3⟩
  have C1 := Lib.hid (rfirst_any 18 2 8 (h.below (hb3.mono hB)) (Nat.le_trans hB hb3.size) (by decide))
  obtain ⟨Y, hY⟩ : ∃ z, z = machE r n s := ⟨_, rfl⟩
  rw [← hY]
  have HY : Hid (Y = if (firstE 18 2 8 s).2.err ≠ 0 then (Mi0, (firstE 18 2 8 s).2) else readE (firstE 18 2 8 s).1 r n (firstE 18 2 8 s).2) := hY
  obtain ⟨⟨v, t⟩, hv⟩ : ∃ z, z = firstE 18 2 8 s := ⟨_, rfl⟩
  rw [← hv] at C1 HY
  clear h hB hY hv hb1 hb2 hb3 q2 q3
  go_enter Try.func50, Try.ntmps50
  go_upto_region 1 with fail
  generalize (((w.alloc (.cells #[.slice A s.rest.length c, .int .i64 s.err] 55)).alloc (.cells #[.int .i64 0, .int .i64 0, .int .i64 0, .int .i64 0, .int .i64 0, .int .i64 0, .int .i64 0] 97)).alloc (.cells #[.slice none 0 0, .int .i64 0] 55)) = W0 at *
  have p0 := q1.cell 0; have p1 := q1.cell 1
  have pf0 := q1.frozen 0; have pf1 := q1.frozen 1
  simp only [List.getElem?_toArray, List.getElem?_cons_zero, List.getElem?_cons_succ] at p0 p1
  clear q1
  go_wp2_with fail
  refine C1.out.mono ?_
  rintro e W1 ⟨A1, c1, rfl, hI, hb⟩
  have HF1 := Lib.hid (HF.out.next hb)
  have HI1 := Lib.hid hI
  clear hb hI C1 HF p0 p1 pf0 pf1
  go_upto_region 2 with fail
  have hrow := Row.new W1 55 #[.slice A1 t.rest.length c1, .int .i64 t.err]
  have hba := (Below.refl W1.heap.size W1).alloc (Nat.le_refl _) (.cells #[.slice A1 t.rest.length c1, .int .i64 t.err] 55)
  have HF2 := Lib.hid (HF1.out.next hba)
  have HI2 := Lib.hid (HI1.out.below (hba.mono (Nat.le_trans HBB.out HF1.out.blw.size)))
  have hlo : w.heap.size + 1 + 1 < W1.heap.size := HF1.out.z9.lt
  clear hba HF1 HI1
  generalize (W1.alloc (.cells #[.slice A1 t.rest.length c1, .int .i64 t.err] 55)) = W2 at *
  generalize W1.heap.size = b9 at *
  have p0 := hrow.cell 0; have p1 := hrow.cell 1
  have pf0 := hrow.frozen 0; have pf1 := hrow.frozen 1
  simp only [List.getElem?_toArray, List.getElem?_cons_zero, List.getElem?_cons_succ] at p0 p1
  have k0 := HF2.out.z8.cell 0; have k1 := HF2.out.z8.cell 1; have k2 := HF2.out.z8.cell 2; have k3 := HF2.out.z8.cell 3
  have k4 := HF2.out.z8.cell 4; have k5 := HF2.out.z8.cell 5; have k6 := HF2.out.z8.cell 6
  have kf0 := HF2.out.z8.frozen 0; have kf1 := HF2.out.z8.frozen 1; have kf2 := HF2.out.z8.frozen 2; have kf3 := HF2.out.z8.frozen 3
  have kf4 := HF2.out.z8.frozen 4; have kf5 := HF2.out.z8.frozen 5; have kf6 := HF2.out.z8.frozen 6
  have q0 := HF2.out.z9.cell 0; have q1 := HF2.out.z9.cell 1
  have qf0 := HF2.out.z9.frozen 0; have qf1 := HF2.out.z9.frozen 1
  simp only [List.getElem?_toArray, List.getElem?_cons_zero, List.getElem?_cons_succ] at k0 k1 k2 k3 k4 k5 k6 q0 q1
  clear hrow
  by_cases he : t.err ≠ 0
  · have d0 : (t.err != 0) = true := by simp [he]
    have HY2 : Hid (Y = (Mi0, t)) := by show _ = _; rw [HY.out]; exact if_pos he
    clear he HY
    go_wp2_with fail
    go_region
    go_wp2
    (try simp only [Exit.inBlock, Exit.then])
    obtain ⟨hf8, hf9, hfb⟩ := HF2.out.fin (⟨0, 0, 0, 0, 0, 0, 0⟩ : Mi) t A1 c1
    refine bodyPost_ret (v := .tuple #[.agg #[.int .i64 (⟨0, 0, 0, 0, 0, 0, 0⟩ : Mi).op, .int .i64 (⟨0, 0, 0, 0, 0, 0, 0⟩ : Mi).d, .int .i64 (⟨0, 0, 0, 0, 0, 0, 0⟩ : Mi).a, .int .i64 (⟨0, 0, 0, 0, 0, 0, 0⟩ : Mi).b, .int .i64 (⟨0, 0, 0, 0, 0, 0, 0⟩ : Mi).imm, .int .i64 (⟨0, 0, 0, 0, 0, 0, 0⟩ : Mi).dst, .int .i64 (⟨0, 0, 0, 0, 0, 0, 0⟩ : Mi).src], .agg #[.slice A1 t.rest.length c1, .int .i64 t.err]]) ?_ rfl ⟨A1, c1, ?_, ?_, ?_⟩
    · exact results_row_row rfl _ _ (w.heap.size + 1 + 1) (w.heap.size + 1) 55 97 #[.slice A1 t.rest.length c1, .int .i64 t.err] #[.int .i64 (⟨0, 0, 0, 0, 0, 0, 0⟩ : Mi).op, .int .i64 (⟨0, 0, 0, 0, 0, 0, 0⟩ : Mi).d, .int .i64 (⟨0, 0, 0, 0, 0, 0, 0⟩ : Mi).a, .int .i64 (⟨0, 0, 0, 0, 0, 0, 0⟩ : Mi).b, .int .i64 (⟨0, 0, 0, 0, 0, 0, 0⟩ : Mi).imm, .int .i64 (⟨0, 0, 0, 0, 0, 0, 0⟩ : Mi).dst, .int .i64 (⟨0, 0, 0, 0, 0, 0, 0⟩ : Mi).src] (0, 0) (0, 0) _ _ rfl hf9.drew Try.underlying55 rfl (by kernel_rfl) rfl hf8.drew Try.underlying97 rfl (by kernel_rfl)
    · rw [HY2.out]; (try rfl)
    · rw [HY2.out]; exact IpV.below HI2.out ((hfb.drew).mono HBB.out)
    · exact HF2.out.blw.trans hfb.drew
  · have d0 : (t.err != 0) = false := by simpa using he
    have HY2 : Hid (Y = readE v r n t) := by show _ = _; rw [HY.out]; exact if_neg he
    have C2 := Lib.hid (rread_any v r n HI2.out (Nat.le_trans HBB.out HF2.out.blw.size) hr)
    rw [← HY2.out] at C2
    clear he HY HY2
    obtain ⟨Ym, Yt⟩ := Y
    dsimp only at C2 ⊢
    go_wp2_with fail
    refine C2.out.mono ?_
    rintro e W3 ⟨A3, c3, rfl, hI, hb⟩
    have HF3 := Lib.hid (HF2.out.next hb)
    have HI3 := Lib.hid hI
    clear k0 k1 k2 k3 k4 k5 k6 kf0 kf1 kf2 kf3 kf4 kf5 kf6 q0 q1 qf0 qf1 p0 p1 pf0 pf1 hb hI C2 HF2 HI2
    have k0 := HF3.out.z8.cell 0; have k1 := HF3.out.z8.cell 1; have k2 := HF3.out.z8.cell 2; have k3 := HF3.out.z8.cell 3
    have k4 := HF3.out.z8.cell 4; have k5 := HF3.out.z8.cell 5; have k6 := HF3.out.z8.cell 6
    have kf0 := HF3.out.z8.frozen 0; have kf1 := HF3.out.z8.frozen 1; have kf2 := HF3.out.z8.frozen 2; have kf3 := HF3.out.z8.frozen 3
    have kf4 := HF3.out.z8.frozen 4; have kf5 := HF3.out.z8.frozen 5; have kf6 := HF3.out.z8.frozen 6
    have q0 := HF3.out.z9.cell 0; have q1 := HF3.out.z9.cell 1
    have qf0 := HF3.out.z9.frozen 0; have qf1 := HF3.out.z9.frozen 1
    simp only [List.getElem?_toArray, List.getElem?_cons_zero, List.getElem?_cons_succ] at k0 k1 k2 k3 k4 k5 k6 q0 q1
    go_wp2
    (try simp only [Exit.inBlock, Exit.then])
    obtain ⟨hf8, hf9, hfb⟩ := HF3.out.fin Ym Yt A3 c3
    refine bodyPost_ret (v := .tuple #[.agg #[.int .i64 Ym.op, .int .i64 Ym.d, .int .i64 Ym.a, .int .i64 Ym.b, .int .i64 Ym.imm, .int .i64 Ym.dst, .int .i64 Ym.src], .agg #[.slice A3 Yt.rest.length c3, .int .i64 Yt.err]]) ?_ rfl ⟨A3, c3, rfl, ?_, ?_⟩
    · exact results_row_row rfl _ _ (w.heap.size + 1 + 1) (w.heap.size + 1) 55 97 #[.slice A3 Yt.rest.length c3, .int .i64 Yt.err] #[.int .i64 Ym.op, .int .i64 Ym.d, .int .i64 Ym.a, .int .i64 Ym.b, .int .i64 Ym.imm, .int .i64 Ym.dst, .int .i64 Ym.src] (0, 0) (0, 0) _ _ rfl hf9 Try.underlying55 rfl (by kernel_rfl) rfl hf8 Try.underlying97 rfl (by kernel_rfl)
    · exact HI3.out.below (hfb.mono HBB.out)
    · exact HF3.out.blw.trans hfb

def RQI (w : World) (B : Nat) (m : Mi) (t : Ip) (e : Ending) (w' : World) : Prop :=
  ∃ A' c', e = .returned (.tuple #[.agg #[.int .i64 m.op, .int .i64 m.d, .int .i64 m.a, .int .i64 m.b, .int .i64 m.imm], .agg #[.slice A' t.rest.length c', .int .i64 t.err]]) ∧ IpV w' B A' c' t ∧ Below w.heap.size w w'

set_option maxRecDepth 100000 in
set_option maxHeartbeats 8000000 in
theorem rinstr17_any {w : World} {B : Nat} {A : Option Addr} {c : Nat} {s : Ip} (r : Int) (h : IpV w B A c s) (hB : B ≤ w.heap.size) (hr : 0 ≤ r ∧ r ≤ 4611686018427387904) :
    Calls Try.prog 49 #[.agg #[.slice A s.rest.length c, .int .i64 s.err], .int .i64 r] w (RQI w B (instrE r s).1 (instrE r s).2) := by
  have HBB := Lib.hid hB
  have hb1 := (Below.refl w.heap.size w).alloc (Nat.le_refl _) (.cells #[.slice A s.rest.length c, .int .i64 s.err] 55)
  have hb2 := hb1.alloc hb1.size (.cells #[.int .i64 0, .int .i64 0, .int .i64 0, .int .i64 0, .int .i64 0] 92)
  have hb3 := hb2.alloc hb2.size (.cells #[.slice none 0 0, .int .i64 0] 55)
  have q1 := ((Row.new w 55 #[.slice A s.rest.length c, .int .i64 s.err]).alloc (.cells #[.int .i64 0, .int .i64 0, .int .i64 0, .int .i64 0, .int .i64 0] 92)).alloc (.cells #[.slice none 0 0, .int .i64 0] 55)
  have q2 := (Row.new (w.alloc (.cells #[.slice A s.rest.length c, .int .i64 s.err] 55)) 92 #[.int .i64 0, .int .i64 0, .int .i64 0, .int .i64 0, .int .i64 0]).alloc (.cells #[.slice none 0 0, .int .i64 0] 55)
  have q3 := Row.new ((w.alloc (.cells #[.slice A s.rest.length c, .int .i64 s.err] 55)).alloc (.cells #[.int .i64 0, .int .i64 0, .int .i64 0, .int .i64 0, .int .i64 0] 92)) 55 #[.slice none 0 0, .int .i64 0]
  simp only [World.size_alloc] at q2 q3
  have HF : Hid (FiI w (((w.alloc (.cells #[.slice A s.rest.length c, .int .i64 s.err] 55)).alloc (.cells #[.int .i64 0, .int .i64 0, .int .i64 0, .int .i64 0, .int .i64 0] 92)).alloc (.cells #[.slice none 0 0, .int .i64 0] 55))) := ⟨hb3, q2, q3⟩
  have C1 := Lib.hid (rfirst_any 17 0 8 (h.below (hb3.mono hB)) (Nat.le_trans hB hb3.size) (by decide))
  obtain ⟨Y, hY⟩ : ∃ z, z = instrE r s := ⟨_, rfl⟩
  rw [← hY]
  have HY : Hid (Y = if (firstE 17 0 8 s).2.err ≠ 0 then (Mi0, (firstE 17 0 8 s).2) else readE (firstE 17 0 8 s).1 r 0 (firstE 17 0 8 s).2) := hY
  obtain ⟨⟨v, t⟩, hv⟩ : ∃ z, z = firstE 17 0 8 s := ⟨_, rfl⟩
  rw [← hv] at C1 HY
  clear h hB hY hv hb1 hb2 hb3 q2 q3
  go_enter Try.func49, Try.ntmps49
  go_upto_region 1 with fail
  generalize (((w.alloc (.cells #[.slice A s.rest.length c, .int .i64 s.err] 55)).alloc (.cells #[.int .i64 0, .int .i64 0, .int .i64 0, .int .i64 0, .int .i64 0] 92)).alloc (.cells #[.slice none 0 0, .int .i64 0] 55)) = W0 at *
  have p0 := q1.cell 0; have p1 := q1.cell 1
  have pf0 := q1.frozen 0; have pf1 := q1.frozen 1
  simp only [List.getElem?_toArray, List.getElem?_cons_zero, List.getElem?_cons_succ] at p0 p1
  clear q1
  go_wp2_with fail
  refine C1.out.mono ?_
  rintro e W1 ⟨A1, c1, rfl, hI, hb⟩
  have HF1 := Lib.hid (HF.out.next hb)
  have HI1 := Lib.hid hI
  clear hb hI C1 HF p0 p1 pf0 pf1
  go_upto_region 2 with fail
  have hrow := Row.new W1 55 #[.slice A1 t.rest.length c1, .int .i64 t.err]
  have hba := (Below.refl W1.heap.size W1).alloc (Nat.le_refl _) (.cells #[.slice A1 t.rest.length c1, .int .i64 t.err] 55)
  have HF2 := Lib.hid (HF1.out.next hba)
  have HI2 := Lib.hid (HI1.out.below (hba.mono (Nat.le_trans HBB.out HF1.out.blw.size)))
  have hlo : w.heap.size + 1 + 1 < W1.heap.size := HF1.out.z9.lt
  clear hba HF1 HI1
  generalize (W1.alloc (.cells #[.slice A1 t.rest.length c1, .int .i64 t.err] 55)) = W2 at *
  generalize W1.heap.size = b9 at *
  have p0 := hrow.cell 0; have p1 := hrow.cell 1
  have pf0 := hrow.frozen 0; have pf1 := hrow.frozen 1
  simp only [List.getElem?_toArray, List.getElem?_cons_zero, List.getElem?_cons_succ] at p0 p1
  have k0 := HF2.out.z8.cell 0; have k1 := HF2.out.z8.cell 1; have k2 := HF2.out.z8.cell 2; have k3 := HF2.out.z8.cell 3
  have k4 := HF2.out.z8.cell 4
  have kf0 := HF2.out.z8.frozen 0; have kf1 := HF2.out.z8.frozen 1; have kf2 := HF2.out.z8.frozen 2; have kf3 := HF2.out.z8.frozen 3
  have kf4 := HF2.out.z8.frozen 4
  have q0 := HF2.out.z9.cell 0; have q1 := HF2.out.z9.cell 1
  have qf0 := HF2.out.z9.frozen 0; have qf1 := HF2.out.z9.frozen 1
  simp only [List.getElem?_toArray, List.getElem?_cons_zero, List.getElem?_cons_succ] at k0 k1 k2 k3 k4 q0 q1
  clear hrow
  by_cases he : t.err ≠ 0
  · have d0 : (t.err != 0) = true := by simp [he]
    have HY2 : Hid (Y = (Mi0, t)) := by show _ = _; rw [HY.out]; exact if_pos he
    clear he HY
    go_wp2_with fail
    go_region
    go_wp2
    (try simp only [Exit.inBlock, Exit.then])
    obtain ⟨hf8, hf9, hfb⟩ := HF2.out.fin (⟨0, 0, 0, 0, 0, 0, 0⟩ : Mi) t A1 c1
    refine bodyPost_ret (v := .tuple #[.agg #[.int .i64 (⟨0, 0, 0, 0, 0, 0, 0⟩ : Mi).op, .int .i64 (⟨0, 0, 0, 0, 0, 0, 0⟩ : Mi).d, .int .i64 (⟨0, 0, 0, 0, 0, 0, 0⟩ : Mi).a, .int .i64 (⟨0, 0, 0, 0, 0, 0, 0⟩ : Mi).b, .int .i64 (⟨0, 0, 0, 0, 0, 0, 0⟩ : Mi).imm], .agg #[.slice A1 t.rest.length c1, .int .i64 t.err]]) ?_ rfl ⟨A1, c1, ?_, ?_, ?_⟩
    · exact results_row_row rfl _ _ (w.heap.size + 1 + 1) (w.heap.size + 1) 55 92 #[.slice A1 t.rest.length c1, .int .i64 t.err] #[.int .i64 (⟨0, 0, 0, 0, 0, 0, 0⟩ : Mi).op, .int .i64 (⟨0, 0, 0, 0, 0, 0, 0⟩ : Mi).d, .int .i64 (⟨0, 0, 0, 0, 0, 0, 0⟩ : Mi).a, .int .i64 (⟨0, 0, 0, 0, 0, 0, 0⟩ : Mi).b, .int .i64 (⟨0, 0, 0, 0, 0, 0, 0⟩ : Mi).imm] (0, 0) (0, 0) _ _ rfl hf9.drew Try.underlying55 rfl (by kernel_rfl) rfl hf8.drew Try.underlying92 rfl (by kernel_rfl)
    · rw [HY2.out]; (try rfl)
    · rw [HY2.out]; exact IpV.below HI2.out ((hfb.drew).mono HBB.out)
    · exact HF2.out.blw.trans hfb.drew
  · have d0 : (t.err != 0) = false := by simpa using he
    have HY2 : Hid (Y = readE v r 0 t) := by show _ = _; rw [HY.out]; exact if_neg he
    have C2 := Lib.hid (rread_any v r 0 HI2.out (Nat.le_trans HBB.out HF2.out.blw.size) hr)
    rw [← HY2.out] at C2
    clear he HY HY2
    obtain ⟨Ym, Yt⟩ := Y
    dsimp only at C2 ⊢
    go_wp2_with fail
    refine C2.out.mono ?_
    rintro e W3 ⟨A3, c3, rfl, hI, hb⟩
    have HF3 := Lib.hid (HF2.out.next hb)
    have HI3 := Lib.hid hI
    clear k0 k1 k2 k3 k4 kf0 kf1 kf2 kf3 kf4 q0 q1 qf0 qf1 p0 p1 pf0 pf1 hb hI C2 HF2 HI2
    go_upto_region 5 with fail
    have hr8 := (Row.new W3 97 #[.int .i64 Ym.op, .int .i64 Ym.d, .int .i64 Ym.a, .int .i64 Ym.b, .int .i64 Ym.imm, .int .i64 Ym.dst, .int .i64 Ym.src]).alloc (.cells #[.slice A3 Yt.rest.length c3, .int .i64 Yt.err] 55)
    have hr9 := Row.new (W3.alloc (.cells #[.int .i64 Ym.op, .int .i64 Ym.d, .int .i64 Ym.a, .int .i64 Ym.b, .int .i64 Ym.imm, .int .i64 Ym.dst, .int .i64 Ym.src] 97)) 55 #[.slice A3 Yt.rest.length c3, .int .i64 Yt.err]
    have hba := (Below.refl W3.heap.size W3).alloc (Nat.le_refl _) (.cells #[.int .i64 Ym.op, .int .i64 Ym.d, .int .i64 Ym.a, .int .i64 Ym.b, .int .i64 Ym.imm, .int .i64 Ym.dst, .int .i64 Ym.src] 97)
    have hbb := hba.alloc hba.size (.cells #[.slice A3 Yt.rest.length c3, .int .i64 Yt.err] 55)
    simp only [World.size_alloc] at hr9
    have HF4 := Lib.hid (HF3.out.next hbb)
    have HI4 := Lib.hid (HI3.out.below (hbb.mono (Nat.le_trans HBB.out HF3.out.blw.size)))
    have hlo3 : w.heap.size + 1 + 1 < W3.heap.size := HF3.out.z9.lt
    clear hba hbb HF3 HI3
    generalize ((W3.alloc (.cells #[.int .i64 Ym.op, .int .i64 Ym.d, .int .i64 Ym.a, .int .i64 Ym.b, .int .i64 Ym.imm, .int .i64 Ym.dst, .int .i64 Ym.src] 97)).alloc (.cells #[.slice A3 Yt.rest.length c3, .int .i64 Yt.err] 55)) = W4 at *
    generalize W3.heap.size = b8 at *
    have m0 := hr8.cell 0; have m1 := hr8.cell 1; have m2 := hr8.cell 2; have m3 := hr8.cell 3; have m4 := hr8.cell 4
    have p0 := hr9.cell 0; have p1 := hr9.cell 1
    simp only [List.getElem?_toArray, List.getElem?_cons_zero, List.getElem?_cons_succ] at m0 m1 m2 m3 m4 p0 p1
    clear hr8 hr9
    have k0 := HF4.out.z8.cell 0; have k1 := HF4.out.z8.cell 1; have k2 := HF4.out.z8.cell 2; have k3 := HF4.out.z8.cell 3
    have k4 := HF4.out.z8.cell 4
    have kf0 := HF4.out.z8.frozen 0; have kf1 := HF4.out.z8.frozen 1; have kf2 := HF4.out.z8.frozen 2; have kf3 := HF4.out.z8.frozen 3
    have kf4 := HF4.out.z8.frozen 4
    have q0 := HF4.out.z9.cell 0; have q1 := HF4.out.z9.cell 1
    have qf0 := HF4.out.z9.frozen 0; have qf1 := HF4.out.z9.frozen 1
    simp only [List.getElem?_toArray, List.getElem?_cons_zero, List.getElem?_cons_succ] at k0 k1 k2 k3 k4 q0 q1
    go_wp2_with fail
    go_region
    go_wp2
    (try simp only [Exit.inBlock, Exit.then])
    obtain ⟨hf8, hf9, hfb⟩ := HF4.out.fin Ym Yt A3 c3
    refine bodyPost_ret (v := .tuple #[.agg #[.int .i64 Ym.op, .int .i64 Ym.d, .int .i64 Ym.a, .int .i64 Ym.b, .int .i64 Ym.imm], .agg #[.slice A3 Yt.rest.length c3, .int .i64 Yt.err]]) ?_ rfl ⟨A3, c3, rfl, ?_, ?_⟩
    · exact results_row_row rfl _ _ (w.heap.size + 1 + 1) (w.heap.size + 1) 55 92 #[.slice A3 Yt.rest.length c3, .int .i64 Yt.err] #[.int .i64 Ym.op, .int .i64 Ym.d, .int .i64 Ym.a, .int .i64 Ym.b, .int .i64 Ym.imm] (0, 0) (0, 0) _ _ rfl hf9.drew Try.underlying55 rfl (by kernel_rfl) rfl hf8.drew Try.underlying92 rfl (by kernel_rfl)
    · exact HI4.out.below ((hfb.drew).mono HBB.out)
    · exact HF4.out.blw.trans hfb.drew

end Go.Proofs.Ytkapmfopfddmbaa
