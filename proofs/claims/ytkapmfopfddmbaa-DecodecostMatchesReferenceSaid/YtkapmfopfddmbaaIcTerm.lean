/-
  The reference of layer 17: Term (its text is made by wip/lab/genicterm.py).
-/
import Derived.Test.YtkapmfopfddmbaaPk4
namespace Go.Proofs.Ytkapmfopfddmbaa
open Go.RowKit
set_option linter.unusedVariables false
set_option linter.unusedSimpArgs false

/-- What Term carries. -/
structure TdS (w : World) (B b9 b10 : Nat) (m : Tm) (t : Ip) (A : Option Addr) (c : Nat) (W : World) : Prop where
  blw : Below w.heap.size w W
  z6 : Row W (w.heap.size + 1) 101 #[.int .i64 0, .int .i64 0, .int .i64 0, .int .i64 0]
  z7 : Row W (w.heap.size + 1 + 1) 55 #[.slice none 0 0, .int .i64 0]
  inp : Row W b9 55 #[.slice A t.rest.length c, .int .i64 t.err]
  tm : Row W b10 101 #[.int .i64 m.kind, .int .i64 m.a, .int .i64 m.to, .int .i64 m.el]
  lo : w.heap.size + 1 + 1 < b9
  ne : b9 < b10
  ip : IpV W B A c t

section
variable {w W W' : World} {B b9 b10 : Nat} {m m' : Tm} {t t' : Ip} {A A' : Option Addr} {c c' : Nat}

theorem TdS.next (h : TdS w B b9 b10 m t A c W) (hb : Below W.heap.size W W') (hB : B ≤ W.heap.size) : TdS w B b9 b10 m t A c W' :=
  ⟨h.blw.trans (hb.mono h.blw.size), h.z6.below hb h.z6.lt, h.z7.below hb h.z7.lt, h.inp.below hb h.inp.lt, h.tm.below hb h.tm.lt, h.lo, h.ne, h.ip.below (hb.mono hB)⟩

theorem TdS.step (h : TdS w B b9 b10 m t A c W) (hb : Below W.heap.size W W') (hI : IpV W' B A' c' t') (k : Nat) (u : Value) (m' : Tm) (e : (#[.int .i64 m.kind, .int .i64 m.a, .int .i64 m.to, .int .i64 m.el] : Array Value).setIfInBounds k u = #[.int .i64 m'.kind, .int .i64 m'.a, .int .i64 m'.to, .int .i64 m'.el]) (hB : B ≤ w.heap.size) : TdS w B b9 b10 m' t' A' c' (((W'.setCell ⟨b10, k, none⟩ u).setCell ⟨b9, 0, none⟩ (.slice A' t'.rest.length c')).setCell ⟨b9, 1, none⟩ (.int .i64 t'.err)) := by
  have h1 := h.next hb (by have := h.blw.size; omega)
  have hlo := h.lo
  have hne := h.ne
  have hw : Below w.heap.size W' (((W'.setCell ⟨b10, k, none⟩ u).setCell ⟨b9, 0, none⟩ (.slice A' t'.rest.length c')).setCell ⟨b9, 1, none⟩ (.int .i64 t'.err)) :=
    (((Below.refl _ W').setCell (p := ⟨b10, k, none⟩) (by show _ ≤ b10; omega) u).setCell (p := ⟨b9, 0, none⟩) (by show _ ≤ b9; omega) _).setCell (p := ⟨b9, 1, none⟩) (by show _ ≤ b9; omega) _
  have hp := h1.tm.put k u
  rw [e] at hp
  refine ⟨h1.blw.trans hw, ?_, ?_, ?_, ?_, hlo, hne, hI.below (hw.mono hB)⟩
  · exact ((h1.z6.far (q := ⟨b10, k, none⟩) (by show _ ≠ b10; omega) _).far (q := ⟨b9, 0, none⟩) (by show _ ≠ b9; omega) _).far (q := ⟨b9, 1, none⟩) (by show _ ≠ b9; omega) _
  · exact ((h1.z7.far (q := ⟨b10, k, none⟩) (by show _ ≠ b10; omega) _).far (q := ⟨b9, 0, none⟩) (by show _ ≠ b9; omega) _).far (q := ⟨b9, 1, none⟩) (by show _ ≠ b9; omega) _
  · exact ((h1.inp.far (q := ⟨b10, k, none⟩) (by show _ ≠ b10; omega) _).put 0 (.slice A' t'.rest.length c')).put 1 (.int .i64 t'.err)
  · exact (hp.far (q := ⟨b9, 0, none⟩) (by show _ ≠ b9; omega) _).far (q := ⟨b9, 1, none⟩) (by show _ ≠ b9; omega) _

theorem Row.put4i {W : World} {p : Nat} {T : TypeId} {z0 z1 z2 z3 : Value} (h : Row W p T #[z0, z1, z2, z3]) (a0 a1 a2 a3 : Value) :
    Row ((((W.setCell ⟨p, 0, none⟩ a0).setCell ⟨p, 1, none⟩ a1).setCell ⟨p, 2, none⟩ a2).setCell ⟨p, 3, none⟩ a3) p T #[a0, a1, a2, a3] := by
  have q0 : Row _ p T #[a0, z1, z2, z3] := h.put 0 a0
  have q1 : Row _ p T #[a0, a1, z2, z3] := q0.put 1 a1
  have q2 : Row _ p T #[a0, a1, a2, z3] := q1.put 2 a2
  exact q2.put 3 a3

theorem mods4i (W : World) (p : Nat) (a0 a1 a2 a3 : Value) : Mods (Is p) W ((((W.setCell ⟨p, 0, none⟩ a0).setCell ⟨p, 1, none⟩ a1).setCell ⟨p, 2, none⟩ a2).setCell ⟨p, 3, none⟩ a3) :=
  ((((Mods.refl _ W).put 0 a0).put 1 a1).put 2 a2).put 3 a3

theorem TdS.fin (h : TdS w B b9 b10 m t A c W) (m' : Tm) (t' : Ip) (A' : Option Addr) (c' : Nat) :
    Row ((((((W.setCell ⟨w.heap.size + 1, 0, none⟩ (.int .i64 m'.kind)).setCell ⟨w.heap.size + 1, 1, none⟩ (.int .i64 m'.a)).setCell ⟨w.heap.size + 1, 2, none⟩ (.int .i64 m'.to)).setCell ⟨w.heap.size + 1, 3, none⟩ (.int .i64 m'.el)).setCell ⟨w.heap.size + 1 + 1, 0, none⟩ (.slice A' t'.rest.length c')).setCell ⟨w.heap.size + 1 + 1, 1, none⟩ (.int .i64 t'.err)) (w.heap.size + 1) 101 #[.int .i64 m'.kind, .int .i64 m'.a, .int .i64 m'.to, .int .i64 m'.el] ∧
    Row ((((((W.setCell ⟨w.heap.size + 1, 0, none⟩ (.int .i64 m'.kind)).setCell ⟨w.heap.size + 1, 1, none⟩ (.int .i64 m'.a)).setCell ⟨w.heap.size + 1, 2, none⟩ (.int .i64 m'.to)).setCell ⟨w.heap.size + 1, 3, none⟩ (.int .i64 m'.el)).setCell ⟨w.heap.size + 1 + 1, 0, none⟩ (.slice A' t'.rest.length c')).setCell ⟨w.heap.size + 1 + 1, 1, none⟩ (.int .i64 t'.err)) (w.heap.size + 1 + 1) 55 #[.slice A' t'.rest.length c', .int .i64 t'.err] ∧
    Below w.heap.size W ((((((W.setCell ⟨w.heap.size + 1, 0, none⟩ (.int .i64 m'.kind)).setCell ⟨w.heap.size + 1, 1, none⟩ (.int .i64 m'.a)).setCell ⟨w.heap.size + 1, 2, none⟩ (.int .i64 m'.to)).setCell ⟨w.heap.size + 1, 3, none⟩ (.int .i64 m'.el)).setCell ⟨w.heap.size + 1 + 1, 0, none⟩ (.slice A' t'.rest.length c')).setCell ⟨w.heap.size + 1 + 1, 1, none⟩ (.int .i64 t'.err)) := by
  have h8 := h.z6.put4i (.int .i64 m'.kind) (.int .i64 m'.a) (.int .i64 m'.to) (.int .i64 m'.el)
  have hm := mods4i W (w.heap.size + 1) (.int .i64 m'.kind) (.int .i64 m'.a) (.int .i64 m'.to) (.int .i64 m'.el)
  have h9 := h.z7.mods hm (fun e => by have : w.heap.size + 1 + 1 = w.heap.size + 1 := e; omega)
  have hw := hm.below (B := w.heap.size) h.blw.size (fun k hk => by have : k = w.heap.size + 1 := hk; omega)
  refine ⟨(h8.far (q := ⟨w.heap.size + 1 + 1, 0, none⟩) (by show _ ≠ w.heap.size + 1 + 1; omega) _).far (q := ⟨w.heap.size + 1 + 1, 1, none⟩) (by show _ ≠ w.heap.size + 1 + 1; omega) _, ?_, (hw.setCell (p := ⟨w.heap.size + 1 + 1, 0, none⟩) (by show _ ≤ w.heap.size + 1 + 1; omega) _).setCell (p := ⟨w.heap.size + 1 + 1, 1, none⟩) (by show _ ≤ w.heap.size + 1 + 1; omega) _⟩
  exact (h9.put 0 (.slice A' t'.rest.length c')).put 1 (.int .i64 t'.err)

end

/-- What the reference's reading of terminators returns. -/
def RQT (w : World) (B : Nat) (m : Tm) (t : Ip) (e : Ending) (w' : World) : Prop :=
  ∃ A' c', e = .returned (.tuple #[.agg #[.int .i64 m.kind, .int .i64 m.a, .int .i64 m.to, .int .i64 m.el], .agg #[.slice A' t.rest.length c', .int .i64 t.err]]) ∧ IpV w' B A' c' t ∧ Below w.heap.size w w'

set_option maxRecDepth 100000 in
set_option maxHeartbeats 8000000 in
theorem rterm17_any {w : World} {B : Nat} {A : Option Addr} {c : Nat} {s : Ip} (r n : Int) (h : IpV w B A c s) (hB : B ≤ w.heap.size) (hr : 0 ≤ r ∧ r ≤ 4611686018427387904) (hn : 0 ≤ n ∧ n ≤ 4611686018427387904) :
    Calls Try.prog 51 #[.agg #[.slice A s.rest.length c, .int .i64 s.err], .int .i64 r, .int .i64 n] w (RQT w B (termE r n s).1 (termE r n s).2) := by
  have HBB := Lib.hid hB
  have hb1 := (Below.refl w.heap.size w).alloc (Nat.le_refl _) (.cells #[.slice A s.rest.length c, .int .i64 s.err] 55)
  have hb2 := hb1.alloc hb1.size (.cells #[.int .i64 0, .int .i64 0, .int .i64 0, .int .i64 0] 101)
  have hb3 := hb2.alloc hb2.size (.cells #[.slice none 0 0, .int .i64 0] 55)
  have q1 := ((Row.new w 55 #[.slice A s.rest.length c, .int .i64 s.err]).alloc (.cells #[.int .i64 0, .int .i64 0, .int .i64 0, .int .i64 0] 101)).alloc (.cells #[.slice none 0 0, .int .i64 0] 55)
  have q2 := (Row.new (w.alloc (.cells #[.slice A s.rest.length c, .int .i64 s.err] 55)) 101 #[.int .i64 0, .int .i64 0, .int .i64 0, .int .i64 0]).alloc (.cells #[.slice none 0 0, .int .i64 0] 55)
  have q3 := Row.new ((w.alloc (.cells #[.slice A s.rest.length c, .int .i64 s.err] 55)).alloc (.cells #[.int .i64 0, .int .i64 0, .int .i64 0, .int .i64 0] 101)) 55 #[.slice none 0 0, .int .i64 0]
  simp only [World.size_alloc] at q2 q3
  have HB3 := Lib.hid hb3
  have HQ2 := Lib.hid q2
  have HQ3 := Lib.hid q3
  have C1 := Lib.hid (rfirst_any 3 0 16 (h.below (hb3.mono hB)) (Nat.le_trans hB hb3.size) (by decide))
  obtain ⟨Y, hY⟩ : ∃ z, z = termE r n s := ⟨_, rfl⟩
  rw [← hY]
  have HY : Hid (Y = if (teE r n s).2.err ≠ 0 then (Tm0, (teE r n s).2) else (⟨(tkE s).1, (taE r s).1, (ttE r n s).1, (teE r n s).1⟩, (teE r n s).2)) := hY
  have C1 : Hid (Calls _ _ _ _ (RQ _ B (tkE s).1 (tkE s).2)) := C1
  obtain ⟨v, hv1⟩ : ∃ z, z = (tkE s).1 := ⟨_, rfl⟩
  obtain ⟨t1, ht1⟩ : ∃ z, z = (tkE s).2 := ⟨_, rfl⟩
  rw [← hv1, ← ht1] at C1
  have HV1 := Lib.hid hv1
  have HVT := Lib.hid ht1
  clear hv1 ht1
  clear h hB hY hb1 hb2 hb3 q2 q3
  go_enter Try.func51, Try.ntmps51
  go_upto_region 1 with fail
  generalize (((w.alloc (.cells #[.slice A s.rest.length c, .int .i64 s.err] 55)).alloc (.cells #[.int .i64 0, .int .i64 0, .int .i64 0, .int .i64 0] 101)).alloc (.cells #[.slice none 0 0, .int .i64 0] 55)) = W0 at *
  have p0 := q1.cell 0; have p1 := q1.cell 1
  simp only [List.getElem?_toArray, List.getElem?_cons_zero, List.getElem?_cons_succ] at p0 p1
  clear q1
  go_wp2_with fail
  refine C1.out.mono ?_
  rintro e W1 ⟨A1, c1, rfl, hI, hb⟩
  clear C1 p0 p1
  go_upto_region 3 with fail
  have HT0 : Hid (TdS w B W1.heap.size (W1.heap.size + 1) ⟨v, 0, 0, 0⟩ t1 A1 c1 ((W1.alloc (.cells #[.slice A1 t1.rest.length c1, .int .i64 t1.err] 55)).alloc (.cells #[.int .i64 v, .int .i64 0, .int .i64 0, .int .i64 0] 101))) := by
    have hba := (Below.refl W1.heap.size W1).alloc (Nat.le_refl _) (.cells #[.slice A1 t1.rest.length c1, .int .i64 t1.err] 55)
    have hbb := hba.alloc hba.size (.cells #[.int .i64 v, .int .i64 0, .int .i64 0, .int .i64 0] 101)
    have hb1 := HB3.out.trans (hb.mono HB3.out.size)
    have r9 := (Row.new W1 55 #[.slice A1 t1.rest.length c1, .int .i64 t1.err]).alloc (.cells #[.int .i64 v, .int .i64 0, .int .i64 0, .int .i64 0] 101)
    have r10 := Row.new (W1.alloc (.cells #[.slice A1 t1.rest.length c1, .int .i64 t1.err] 55)) 101 #[.int .i64 v, .int .i64 0, .int .i64 0, .int .i64 0]
    simp only [World.size_alloc] at r10
    have z7 := HQ3.out.below hb HQ3.out.lt
    exact ⟨hb1.trans (hbb.mono hb1.size), ((HQ2.out.below hb HQ2.out.lt).below hbb (Nat.lt_of_lt_of_le HQ2.out.lt hb.size)), z7.below hbb z7.lt, r9, r10, z7.lt, by omega, hI.below (hbb.mono (Nat.le_trans HBB.out hb1.size))⟩
  clear hb hI HB3 HQ2 HQ3
  generalize ((W1.alloc (.cells #[.slice A1 t1.rest.length c1, .int .i64 t1.err] 55)).alloc (.cells #[.int .i64 v, .int .i64 0, .int .i64 0, .int .i64 0] 101)) = W2 at *
  generalize W1.heap.size + 1 = b10 at *
  generalize W1.heap.size = b9 at *
  obtain ⟨A, hA⟩ : ∃ z, z = A1 := ⟨_, rfl⟩
  obtain ⟨c, hc⟩ : ∃ z, z = c1 := ⟨_, rfl⟩
  rw [← hA, ← hc] at HT0
  clear hA hc
  have hlo := HT0.out.lo
  have hne := HT0.out.ne
  have hn1 : ¬ b9 = b10 := by omega
  have hn2 : ¬ b10 = b9 := by omega
  obtain ⟨ub, hub⟩ : ∃ z, z = (v != 1) := ⟨_, rfl⟩
  have HE : Hid (taE r s = optE ub r 9 t1) := by show _ = _; rw [hub, HV1.out, HVT.out]; rfl
  have e1 := hub.symm
  clear hub
  go_upto_if 19 with fail
  go_cut [] from 20 to 26 (fun wx => ∃ A c, Hid (TdS w B b9 b10 ⟨v, (taE r s).1, 0, 0⟩ (taE r s).2 A c wx))
  case first =>
    clear e1
    cases ub
    · have e9 : taE r s = (0, t1) := HE.out
      go_wp2_with fail
      go_meet
      case rel => exact ⟨A, c, by show TdS _ _ _ _ _ _ _ _ _; rw [e9]; exact HT0.out⟩
    · have e9 : taE r s = numE r 9 t1 := HE.out
      have n0 := HT0.out.inp.cell 0; have n1 := HT0.out.inp.cell 1
      have nf0 := HT0.out.inp.frozen 0; have nf1 := HT0.out.inp.frozen 1
      have i0 := HT0.out.tm.cell 0; have i1 := HT0.out.tm.cell 1; have i2 := HT0.out.tm.cell 2; have i3 := HT0.out.tm.cell 3
      have jf0 := HT0.out.tm.frozen 0; have jf1 := HT0.out.tm.frozen 1; have jf2 := HT0.out.tm.frozen 2; have jf3 := HT0.out.tm.frozen 3
      simp only [List.getElem?_toArray, List.getElem?_cons_zero, List.getElem?_cons_succ] at n0 n1 i0 i1 i2 i3
      have C := Lib.hid (rnum_any r 9 HT0.out.ip (Nat.le_trans HBB.out HT0.out.blw.size) hr.1 hr.2 (by decide))
      rw [← e9] at C
      obtain ⟨⟨v9, t9⟩, h9⟩ : ∃ z, z = taE r s := ⟨_, rfl⟩
      rw [← h9] at C
      have H9 := Lib.hid h9
      clear h9 e9 HE
      go_wp2_with fail
      refine C.out.mono ?_
      rintro e V ⟨A9, c9, rfl, hI, hb⟩
      have HN := Lib.hid (HT0.out.step hb hI 1 (.int .i64 v9) ⟨v, v9, 0, 0⟩ rfl HBB.out)
      clear n0 n1 nf0 nf1 i0 i1 i2 i3 jf0 jf1 jf2 jf3
      have HNX := Lib.hid (HT0.out.next hb (Nat.le_trans HBB.out HT0.out.blw.size))
      clear C hb hI
      have n0 := HNX.out.inp.cell 0; have n1 := HNX.out.inp.cell 1
      have nf0 := HNX.out.inp.frozen 0; have nf1 := HNX.out.inp.frozen 1
      have i0 := HNX.out.tm.cell 0; have i1 := HNX.out.tm.cell 1; have i2 := HNX.out.tm.cell 2; have i3 := HNX.out.tm.cell 3
      have jf0 := HNX.out.tm.frozen 0; have jf1 := HNX.out.tm.frozen 1; have jf2 := HNX.out.tm.frozen 2; have jf3 := HNX.out.tm.frozen 3
      simp only [List.getElem?_toArray, List.getElem?_cons_zero, List.getElem?_cons_succ] at n0 n1 i0 i1 i2 i3
      go_wp2_with fail
      go_meet
      case rel => exact ⟨A9, c9, by show TdS _ _ _ _ _ _ _ _ _; rw [← H9.out]; exact HN.out⟩
  case rest =>
    obtain ⟨A, c, HT1⟩ := hcut
    clear HT0 HE e1
    generalize wc = W3 at *
    obtain ⟨ub, hub⟩ : ∃ z, z = (v != 3) := ⟨_, rfl⟩
    have HE : Hid (ttE r n s = optE ub n 11 (taE r s).2) := by show _ = _; rw [hub, HV1.out]; rfl
    have e1 := hub.symm
    clear hub
    go_upto_if 28 with fail
    go_cut [] from 29 to 35 (fun wx => ∃ A c, Hid (TdS w B b9 b10 ⟨v, (taE r s).1, (ttE r n s).1, 0⟩ (ttE r n s).2 A c wx))
    case first =>
      clear e1
      cases ub
      · have e9 : ttE r n s = (0, (taE r s).2) := HE.out
        go_wp2_with fail
        go_meet
        case rel => exact ⟨A, c, by show TdS _ _ _ _ _ _ _ _ _; rw [e9]; exact HT1.out⟩
      · have e9 : ttE r n s = numE n 11 (taE r s).2 := HE.out
        have n0 := HT1.out.inp.cell 0; have n1 := HT1.out.inp.cell 1
        have nf0 := HT1.out.inp.frozen 0; have nf1 := HT1.out.inp.frozen 1
        have i0 := HT1.out.tm.cell 0; have i1 := HT1.out.tm.cell 1; have i2 := HT1.out.tm.cell 2; have i3 := HT1.out.tm.cell 3
        have jf0 := HT1.out.tm.frozen 0; have jf1 := HT1.out.tm.frozen 1; have jf2 := HT1.out.tm.frozen 2; have jf3 := HT1.out.tm.frozen 3
        simp only [List.getElem?_toArray, List.getElem?_cons_zero, List.getElem?_cons_succ] at n0 n1 i0 i1 i2 i3
        have C := Lib.hid (rnum_any n 11 HT1.out.ip (Nat.le_trans HBB.out HT1.out.blw.size) hn.1 hn.2 (by decide))
        rw [← e9] at C
        obtain ⟨⟨v9, t9⟩, h9⟩ : ∃ z, z = ttE r n s := ⟨_, rfl⟩
        rw [← h9] at C
        have H9 := Lib.hid h9
        clear h9 e9 HE
        go_wp2_with fail
        refine C.out.mono ?_
        rintro e V ⟨A9, c9, rfl, hI, hb⟩
        have HN := Lib.hid (HT1.out.step hb hI 2 (.int .i64 v9) ⟨v, (taE r s).1, v9, 0⟩ rfl HBB.out)
        clear n0 n1 nf0 nf1 i0 i1 i2 i3 jf0 jf1 jf2 jf3
        have HNX := Lib.hid (HT1.out.next hb (Nat.le_trans HBB.out HT1.out.blw.size))
        clear C hb hI
        have n0 := HNX.out.inp.cell 0; have n1 := HNX.out.inp.cell 1
        have nf0 := HNX.out.inp.frozen 0; have nf1 := HNX.out.inp.frozen 1
        have i0 := HNX.out.tm.cell 0; have i1 := HNX.out.tm.cell 1; have i2 := HNX.out.tm.cell 2; have i3 := HNX.out.tm.cell 3
        have jf0 := HNX.out.tm.frozen 0; have jf1 := HNX.out.tm.frozen 1; have jf2 := HNX.out.tm.frozen 2; have jf3 := HNX.out.tm.frozen 3
        simp only [List.getElem?_toArray, List.getElem?_cons_zero, List.getElem?_cons_succ] at n0 n1 i0 i1 i2 i3
        go_wp2_with fail
        go_meet
        case rel => exact ⟨A9, c9, by show TdS _ _ _ _ _ _ _ _ _; rw [← H9.out]; exact HN.out⟩
    case rest =>
      obtain ⟨A, c, HT2⟩ := hcut
      clear HT1 HE e1
      generalize wc = W3 at *
      obtain ⟨ub, hub⟩ : ∃ z, z = (v == 2) := ⟨_, rfl⟩
      have HE : Hid (teE r n s = optE ub n 11 (ttE r n s).2) := by show _ = _; rw [hub, HV1.out]; rfl
      have e1 := hub.symm
      clear hub
      go_upto_if 37 with fail
      go_cut [] from 38 to 44 (fun wx => ∃ A c, Hid (TdS w B b9 b10 ⟨v, (taE r s).1, (ttE r n s).1, (teE r n s).1⟩ (teE r n s).2 A c wx))
      case first =>
        clear e1
        cases ub
        · have e9 : teE r n s = (0, (ttE r n s).2) := HE.out
          go_wp2_with fail
          go_meet
          case rel => exact ⟨A, c, by show TdS _ _ _ _ _ _ _ _ _; rw [e9]; exact HT2.out⟩
        · have e9 : teE r n s = numE n 11 (ttE r n s).2 := HE.out
          have n0 := HT2.out.inp.cell 0; have n1 := HT2.out.inp.cell 1
          have nf0 := HT2.out.inp.frozen 0; have nf1 := HT2.out.inp.frozen 1
          have i0 := HT2.out.tm.cell 0; have i1 := HT2.out.tm.cell 1; have i2 := HT2.out.tm.cell 2; have i3 := HT2.out.tm.cell 3
          have jf0 := HT2.out.tm.frozen 0; have jf1 := HT2.out.tm.frozen 1; have jf2 := HT2.out.tm.frozen 2; have jf3 := HT2.out.tm.frozen 3
          simp only [List.getElem?_toArray, List.getElem?_cons_zero, List.getElem?_cons_succ] at n0 n1 i0 i1 i2 i3
          have C := Lib.hid (rnum_any n 11 HT2.out.ip (Nat.le_trans HBB.out HT2.out.blw.size) hn.1 hn.2 (by decide))
          rw [← e9] at C
          obtain ⟨⟨v9, t9⟩, h9⟩ : ∃ z, z = teE r n s := ⟨_, rfl⟩
          rw [← h9] at C
          have H9 := Lib.hid h9
          clear h9 e9 HE
          go_wp2_with fail
          refine C.out.mono ?_
          rintro e V ⟨A9, c9, rfl, hI, hb⟩
          have HN := Lib.hid (HT2.out.step hb hI 3 (.int .i64 v9) ⟨v, (taE r s).1, (ttE r n s).1, v9⟩ rfl HBB.out)
          clear n0 n1 nf0 nf1 i0 i1 i2 i3 jf0 jf1 jf2 jf3
          have HNX := Lib.hid (HT2.out.next hb (Nat.le_trans HBB.out HT2.out.blw.size))
          clear C hb hI
          have n0 := HNX.out.inp.cell 0; have n1 := HNX.out.inp.cell 1
          have nf0 := HNX.out.inp.frozen 0; have nf1 := HNX.out.inp.frozen 1
          have i0 := HNX.out.tm.cell 0; have i1 := HNX.out.tm.cell 1; have i2 := HNX.out.tm.cell 2; have i3 := HNX.out.tm.cell 3
          have jf0 := HNX.out.tm.frozen 0; have jf1 := HNX.out.tm.frozen 1; have jf2 := HNX.out.tm.frozen 2; have jf3 := HNX.out.tm.frozen 3
          simp only [List.getElem?_toArray, List.getElem?_cons_zero, List.getElem?_cons_succ] at n0 n1 i0 i1 i2 i3
          go_wp2_with fail
          go_meet
          case rel => exact ⟨A9, c9, by show TdS _ _ _ _ _ _ _ _ _; rw [← H9.out]; exact HN.out⟩
      case rest =>
        obtain ⟨A, c, HT3⟩ := hcut
        clear HT2 HE e1
        generalize wc = W3 at *
        have HYZ : Hid (Y = if (teE r n s).2.err ≠ 0 then (Tm0, (teE r n s).2) else (⟨v, (taE r s).1, (ttE r n s).1, (teE r n s).1⟩, (teE r n s).2)) := by show _ = _; rw [HY.out, HV1.out]
        obtain ⟨m7, hm7⟩ : ∃ z : Tm, z = ⟨v, (taE r s).1, (ttE r n s).1, (teE r n s).1⟩ := ⟨_, rfl⟩
        obtain ⟨t7, ht7⟩ : ∃ z, z = (teE r n s).2 := ⟨_, rfl⟩
        rw [← hm7, ← ht7] at HT3 HYZ
        clear hm7 ht7 HY HV1 HVT
        have n0 := HT3.out.inp.cell 0; have n1 := HT3.out.inp.cell 1
        have nf0 := HT3.out.inp.frozen 0; have nf1 := HT3.out.inp.frozen 1
        have i0 := HT3.out.tm.cell 0; have i1 := HT3.out.tm.cell 1; have i2 := HT3.out.tm.cell 2; have i3 := HT3.out.tm.cell 3
        have jf0 := HT3.out.tm.frozen 0; have jf1 := HT3.out.tm.frozen 1; have jf2 := HT3.out.tm.frozen 2; have jf3 := HT3.out.tm.frozen 3
        simp only [List.getElem?_toArray, List.getElem?_cons_zero, List.getElem?_cons_succ] at n0 n1 i0 i1 i2 i3
        have k0 := HT3.out.z6.cell 0; have k1 := HT3.out.z6.cell 1; have k2 := HT3.out.z6.cell 2; have k3 := HT3.out.z6.cell 3
        have kf0 := HT3.out.z6.frozen 0; have kf1 := HT3.out.z6.frozen 1; have kf2 := HT3.out.z6.frozen 2; have kf3 := HT3.out.z6.frozen 3
        have q0 := HT3.out.z7.cell 0; have q1 := HT3.out.z7.cell 1
        have qf0 := HT3.out.z7.frozen 0; have qf1 := HT3.out.z7.frozen 1
        simp only [List.getElem?_toArray, List.getElem?_cons_zero, List.getElem?_cons_succ] at k0 k1 k2 k3 q0 q1
        by_cases he7 : t7.err ≠ 0
        · have e7 : (t7.err != 0) = true := by simp [he7]
          have HY2 : Hid (Y = (Tm0, t7)) := by show _ = _; rw [HYZ.out]; exact if_pos he7
          clear he7 HYZ
          go_wp2_with fail
          go_region
          go_wp2
          (try simp only [Exit.inBlock, Exit.then])
          obtain ⟨hf8, hf9, hfb⟩ := HT3.out.fin (⟨0, 0, 0, 0⟩ : Tm) t7 A c
          refine bodyPost_ret (v := .tuple #[.agg #[.int .i64 (⟨0, 0, 0, 0⟩ : Tm).kind, .int .i64 (⟨0, 0, 0, 0⟩ : Tm).a, .int .i64 (⟨0, 0, 0, 0⟩ : Tm).to, .int .i64 (⟨0, 0, 0, 0⟩ : Tm).el], .agg #[.slice A t7.rest.length c, .int .i64 t7.err]]) ?_ rfl ⟨A, c, ?_, ?_, ?_⟩
          · exact results_row_row rfl _ _ (w.heap.size + 1 + 1) (w.heap.size + 1) 55 101 #[.slice A t7.rest.length c, .int .i64 t7.err] #[.int .i64 (⟨0, 0, 0, 0⟩ : Tm).kind, .int .i64 (⟨0, 0, 0, 0⟩ : Tm).a, .int .i64 (⟨0, 0, 0, 0⟩ : Tm).to, .int .i64 (⟨0, 0, 0, 0⟩ : Tm).el] (0, 0) (0, 0) _ _ rfl hf9.drew Try.underlying55 rfl (by kernel_rfl) rfl hf8.drew Try.underlying101 rfl (by kernel_rfl)
          · rw [HY2.out]; (try rfl)
          · rw [HY2.out]; exact IpV.below HT3.out.ip ((hfb.drew).mono HBB.out)
          · exact HT3.out.blw.trans hfb.drew
        · have e7 : (t7.err != 0) = false := by simpa using he7
          have HY2 : Hid (Y = (m7, t7)) := by show _ = _; rw [HYZ.out]; exact if_neg he7
          clear he7 HYZ
          go_wp2_with fail
          go_region
          go_wp2
          (try simp only [Exit.inBlock, Exit.then])
          obtain ⟨hf8, hf9, hfb⟩ := HT3.out.fin m7 t7 A c
          refine bodyPost_ret (v := .tuple #[.agg #[.int .i64 m7.kind, .int .i64 m7.a, .int .i64 m7.to, .int .i64 m7.el], .agg #[.slice A t7.rest.length c, .int .i64 t7.err]]) ?_ rfl ⟨A, c, ?_, ?_, ?_⟩
          · exact results_row_row rfl _ _ (w.heap.size + 1 + 1) (w.heap.size + 1) 55 101 #[.slice A t7.rest.length c, .int .i64 t7.err] #[.int .i64 m7.kind, .int .i64 m7.a, .int .i64 m7.to, .int .i64 m7.el] (0, 0) (0, 0) _ _ rfl hf9.drew Try.underlying55 rfl (by kernel_rfl) rfl hf8.drew Try.underlying101 rfl (by kernel_rfl)
          · rw [HY2.out]; (try rfl)
          · rw [HY2.out]; exact IpV.below HT3.out.ip ((hfb.drew).mono HBB.out)
          · exact HT3.out.blw.trans hfb.drew

end Go.Proofs.Ytkapmfopfddmbaa
