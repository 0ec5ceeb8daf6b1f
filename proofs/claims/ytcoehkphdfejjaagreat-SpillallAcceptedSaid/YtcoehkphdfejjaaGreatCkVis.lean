/-
  The visitor of a check of the program: what memory shows of it; its methods passes and entry.
-/
import Derived.Test.YtcoehkphdfejjaaGreatCkMem
import Derived.Test.YtcoehkphdfejjaaGreatCkLp
import Derived.Test.YtcoehkphdfejjaaGreatEdEnt
import Derived.Test.YtcoehkphdfejjaaGreatEdInv
import Derived.Deep.Cut
import Derived.Deep.CutRange
namespace Go.Proofs.YtcoehkphdfejjaaGreat
open Go.RowKit
set_option linter.unusedVariables false
set_option linter.unusedSimpArgs false

/-- A visitor at block p: the certificate, the report under way. -/
structure VI (w : World) (p : Nat) (A1 : Option Addr) (k1 : Nat) (A2 : Option Addr) (k2 : Nat) (A3 : Option Addr) (k3 : Nat) (c : Ct) (r : Rp) (W : World) : Prop where
  blw : Below w.heap.size w W
  row : Row W p 69 #[.int .i64 c.sa, .int .i64 c.sr, .slice A1 c.bs.length k1, .int .i64 c.ta, .int .i64 c.tr, .int .i64 c.ts, .slice A2 c.ms.length k2, .slice A3 c.inv.length k3, .int .i64 r.err, .int .i64 (r.blk : Int), .int .i64 (r.at_ : Int), .int .i64 (r.blocks : Int), .int .i64 (r.edges : Int), .int .i64 (r.steps : Int), .int .i64 (r.largest : Int)]
  see : CeAt W w.heap.size A1 k1 A2 k2 A3 k3 c
  lt : w.heap.size ≤ p

section
variable {w W W' : World} {p q : Nat} {A1 : Option Addr} {k1 : Nat} {A2 : Option Addr} {k2 : Nat} {A3 : Option Addr} {k3 : Nat} {c : Ct}{r r' : Rp}

theorem VI.next (h : VI w p A1 k1 A2 k2 A3 k3 c r W) (hb : Below W.heap.size W W') : VI w p A1 k1 A2 k2 A3 k3 c r W' :=
  ⟨h.blw.trans (hb.mono h.blw.size), h.row.below hb h.row.lt, h.see.below (hb.mono h.blw.size), h.lt⟩

theorem VI.drewN (h : VI w p A1 k1 A2 k2 A3 k3 c r W) (n : Nat) : VI w p A1 k1 A2 k2 A3 k3 c r (W.drewN n) := h.next (Grew.drewN (Grew.refl W) n).below

theorem VI.drew (h : VI w p A1 k1 A2 k2 A3 k3 c r W) : VI w p A1 k1 A2 k2 A3 k3 c r W.drew := h.drewN 1

theorem VI.alloc (h : VI w p A1 k1 A2 k2 A3 k3 c r W) (o : Obj) : VI w p A1 k1 A2 k2 A3 k3 c r (W.alloc o) := h.next ((Below.refl _ _).alloc (Nat.le_refl _) o)

theorem VI.mods (h : VI w p A1 k1 A2 k2 A3 k3 c r W) (hm : Mods (Is q) W W') (hq : w.heap.size ≤ q) (hn : p ≠ q) : VI w p A1 k1 A2 k2 A3 k3 c r W' := by
  have hb : Below w.heap.size W W' := hm.below h.blw.size fun k hk => by have : k = q := hk; omega
  exact ⟨h.blw.trans hb, h.row.mods hm (fun e => hn e), h.see.below hb, h.lt⟩

/-- A field of the report is stored. -/
theorem VI.put (h : VI w p A1 k1 A2 k2 A3 k3 c r W) (r' : Rp) (k : Nat) (u : Value) (e : (#[.int .i64 c.sa, .int .i64 c.sr, .slice A1 c.bs.length k1, .int .i64 c.ta, .int .i64 c.tr, .int .i64 c.ts, .slice A2 c.ms.length k2, .slice A3 c.inv.length k3, .int .i64 r.err, .int .i64 (r.blk : Int), .int .i64 (r.at_ : Int), .int .i64 (r.blocks : Int), .int .i64 (r.edges : Int), .int .i64 (r.steps : Int), .int .i64 (r.largest : Int)] : Array Value).setIfInBounds k u = #[.int .i64 c.sa, .int .i64 c.sr, .slice A1 c.bs.length k1, .int .i64 c.ta, .int .i64 c.tr, .int .i64 c.ts, .slice A2 c.ms.length k2, .slice A3 c.inv.length k3, .int .i64 r'.err, .int .i64 (r'.blk : Int), .int .i64 (r'.at_ : Int), .int .i64 (r'.blocks : Int), .int .i64 (r'.edges : Int), .int .i64 (r'.steps : Int), .int .i64 (r'.largest : Int)]) : VI w p A1 k1 A2 k2 A3 k3 c r' (W.setCell ⟨p, k, none⟩ u) := by
  have hp := h.row.put k u
  rw [e] at hp
  have hb : Below w.heap.size W (W.setCell ⟨p, k, none⟩ u) := ((Below.refl _ W).setCell (p := ⟨p, k, none⟩) (Nat.le_refl p) u).mono h.lt
  exact ⟨h.blw.trans hb, hp, h.see.below hb, h.lt⟩

end

/-- An error goes into the report. -/
def passR (r : Rp) (er : Int) (b k : Nat) : Rp := if er = 0 then r else ⟨er, b, k, r.blocks, r.edges, r.steps, r.largest⟩

/-- What a method of the visitor leaves. -/
def MvP (w : World) (p : Nat) (A1 : Option Addr) (k1 : Nat) (A2 : Option Addr) (k2 : Nat) (A3 : Option Addr) (k3 : Nat) (c : Ct) (r' : Rp) (ok : Bool) (W : World) (e : Ending) (W' : World) : Prop :=
  e = .returned (.bool ok) ∧ VI w p A1 k1 A2 k2 A3 k3 c r' W' ∧ Mods (Is p) W W'

section
variable {w W : World} {p : Nat} {A1 : Option Addr} {k1 : Nat} {A2 : Option Addr} {k2 : Nat} {A3 : Option Addr} {k3 : Nat} {c : Ct}{r : Rp}

set_option maxRecDepth 100000 in
set_option maxHeartbeats 2000000 in
theorem ckpasses_any (h : VI w p A1 k1 A2 k2 A3 k3 c r W) (er : Int) (b k : Nat) :
    Calls Tryz.prog 47 #[.pointer (some ⟨p, 0, none⟩), .int .i64 er, .int .i64 (b : Int), .int .i64 (k : Int)] W (MvP w p A1 k1 A2 k2 A3 k3 c (passR r er b k) (er == 0) W) := by
  have HV := Lib.hid h
  have HM := Lib.hid (Mods.refl (Is p) W)
  clear h
  have v0 := HV.out.row.cell 0; have v1 := HV.out.row.cell 1; have v2 := HV.out.row.cell 2; have v3 := HV.out.row.cell 3
  have v4 := HV.out.row.cell 4; have v5 := HV.out.row.cell 5; have v6 := HV.out.row.cell 6; have v7 := HV.out.row.cell 7
  have v8 := HV.out.row.cell 8; have v9 := HV.out.row.cell 9; have v10 := HV.out.row.cell 10; have v11 := HV.out.row.cell 11
  have v12 := HV.out.row.cell 12; have v13 := HV.out.row.cell 13; have v14 := HV.out.row.cell 14
  have vf := fun k => HV.out.row.frozen k
  simp only [List.getElem?_toArray, List.getElem?_cons_zero, List.getElem?_cons_succ] at v0 v1 v2 v3 v4 v5 v6 v7 v8 v9 v10 v11 v12 v13 v14
  have vf8 := vf 8; have vf9 := vf 9; have vf10 := vf 10; have vf11 := vf 11; have vf12 := vf 12; have vf13 := vf 13; have vf14 := vf 14
  clear vf
  by_cases h0 : er = 0
  · have d0 : (er != 0) = false := by simp [h0]
    have d1 : (er == 0) = true := by simp [h0]
    have HE : Hid (passR r er b k = r) := by show _ = _; unfold passR; rw [if_pos h0]
    clear h0
    go_enter Tryz.func47, Tryz.ntmps47
    go_wp2
    go_ret
    refine ⟨congrArg (fun z => Ending.returned (.bool z)) d1.symm, ?_, HM.out⟩
    rw [HE.out]
    exact HV.out
  · have d0 : (er != 0) = true := by simp [h0]
    have d1 : (er == 0) = false := by simp [h0]
    have HE : Hid (passR r er b k = ⟨er, b, k, r.blocks, r.edges, r.steps, r.largest⟩) := by show _ = _; unfold passR; rw [if_neg h0]
    clear h0
    go_enter Tryz.func47, Tryz.ntmps47
    go_wp2
    go_ret
    refine ⟨congrArg (fun z => Ending.returned (.bool z)) d1.symm, ?_, ((HM.out.put 8 _).put 9 _).put 10 _⟩
    rw [HE.out]
    exact ((HV.out.put ⟨er, r.blk, r.at_, r.blocks, r.edges, r.steps, r.largest⟩ 8 _ rfl).put ⟨er, b, r.at_, r.blocks, r.edges, r.steps, r.largest⟩ 9 _ rfl).put ⟨er, b, k, r.blocks, r.edges, r.steps, r.largest⟩ 10 _ rfl

set_option maxRecDepth 100000 in
set_option maxHeartbeats 4000000 in
theorem ckentry_any (h : VI w p A1 k1 A2 k2 A3 k3 c r W) (h0 : 0 < c.inv.length) (hl : (c.i 0).length ≤ 1000) (hw : ∀ x ∈ c.i 0, PrWf x) (hp : ∀ x ∈ c.i 0, 0 ≤ x.1 ∧ 0 ≤ x.2) (hs : r.steps ≤ 1000000000) :
    Calls Tryz.prog 25 #[.pointer (some ⟨p, 0, none⟩)] W (MvP w p A1 k1 A2 k2 A3 k3 c (passR ⟨r.err, r.blk, r.at_, r.blocks, r.edges, r.steps + (1 + (c.i 0).length), r.largest⟩ (if entP (c.i 0) c.sa = none then 0 else 23) 0 0) (entP (c.i 0) c.sa).isNone W) := by
  obtain ⟨b, o, Ai, ci, rfl, hb, hc, hci, hcm, hsi⟩ := h.see.inv.at_ h0
  rw [Nat.add_zero] at hc
  rw [Ct.i_lt h0] at hl hw hp ⊢
  have hbz := h.blw.size
  have hpz := h.lt
  have C := fun (V : World) (hV : Below w.heap.size W V) => pentry_any w.heap.size Ai c.inv[0] ci c.sa V (hsi.below hV) (Nat.le_trans h.blw.size hV.size) hl hw hp
  obtain ⟨nw, hnw⟩ : ∃ z, z = c.inv.length := ⟨_, rfl⟩
  have hn0 : (0 : Int) < (nw : Int) := by omega
  generalize c.inv[0] = l at *
  obtain ⟨li, hli⟩ : ∃ z, z = l.length := ⟨_, rfl⟩
  rw [← hli] at C hl hc ⊢
  obtain ⟨eo, heo⟩ : ∃ z, z = entP l c.sa := ⟨_, rfl⟩
  rw [← heo] at C ⊢
  have C := Lib.hid C
  obtain ⟨er, her⟩ : ∃ z : Int, z = if eo = none then 0 else 23 := ⟨_, rfl⟩
  obtain ⟨ok, hok⟩ : ∃ z : Bool, z = eo.isNone := ⟨_, rfl⟩
  rw [← her, ← hok]
  have HER := Lib.hid her
  have HOK := Lib.hid hok
  clear her hok
  obtain ⟨r1, hr1⟩ : ∃ z : Rp, z = ⟨r.err, r.blk, r.at_, r.blocks, r.edges, r.steps + (1 + li), r.largest⟩ := ⟨_, rfl⟩
  rw [← hr1]
  have HV := Lib.hid h
  have HV1 : Hid (VI w p A1 k1 A2 k2 (some ⟨b, o, none⟩) k3 c r1 (W.setCell ⟨p, 13, none⟩ (.int .i64 ((r.steps : Int) + (1 + (li : Int)))))) := HV.out.put r1 13 _ (by rw [hr1]; simp)
  have HM := Lib.hid ((Mods.refl (Is p) W).put 13 (.int .i64 ((r.steps : Int) + (1 + (li : Int)))))
  have HBW : Hid (Below w.heap.size W (W.setCell ⟨p, 13, none⟩ (.int .i64 ((r.steps : Int) + (1 + (li : Int)))))) := ((Below.refl _ W).setCell (p := ⟨p, 13, none⟩) (Nat.le_refl p) _).mono hpz
  clear h hsi hw hp heo hr1 hli
  have v0 := HV.out.row.cell 0; have v1 := HV.out.row.cell 1; have v2 := HV.out.row.cell 2; have v3 := HV.out.row.cell 3
  have v4 := HV.out.row.cell 4; have v5 := HV.out.row.cell 5; have v6 := HV.out.row.cell 6; have v7 := HV.out.row.cell 7
  have v8 := HV.out.row.cell 8; have v9 := HV.out.row.cell 9; have v10 := HV.out.row.cell 10; have v11 := HV.out.row.cell 11
  have v12 := HV.out.row.cell 12; have v13 := HV.out.row.cell 13; have v14 := HV.out.row.cell 14
  have vf := fun k => HV.out.row.frozen k
  simp only [List.getElem?_toArray, List.getElem?_cons_zero, List.getElem?_cons_succ] at v0 v1 v2 v3 v4 v5 v6 v7 v8 v9 v10 v11 v12 v13 v14
  have vf8 := vf 8; have vf9 := vf 9; have vf10 := vf 10; have vf11 := vf 11; have vf12 := vf 12; have vf13 := vf 13; have vf14 := vf 14
  clear vf
  rw [← hnw] at v7
  go_enter Tryz.func25, Tryz.ntmps25
  go_upto_region 3 with fail
  clear v0 v1 v2 v3 v4 v5 v6 v7 v8 v9 v10 v11 v12 v13 v14 vf8 vf9 vf10 vf11 vf12 vf13 vf14
  clear hc HV
  generalize (W.setCell ⟨p, 13, none⟩ (.int .i64 ((r.steps : Int) + (1 + (li : Int))))) = W1 at *
  have v0 := HV1.out.row.cell 0; have v1 := HV1.out.row.cell 1; have v2 := HV1.out.row.cell 2; have v3 := HV1.out.row.cell 3
  have v4 := HV1.out.row.cell 4; have v5 := HV1.out.row.cell 5; have v6 := HV1.out.row.cell 6; have v7 := HV1.out.row.cell 7
  have v8 := HV1.out.row.cell 8; have v9 := HV1.out.row.cell 9; have v10 := HV1.out.row.cell 10; have v11 := HV1.out.row.cell 11
  have v12 := HV1.out.row.cell 12; have v13 := HV1.out.row.cell 13; have v14 := HV1.out.row.cell 14
  have vf := fun k => HV1.out.row.frozen k
  simp only [List.getElem?_toArray, List.getElem?_cons_zero, List.getElem?_cons_succ] at v0 v1 v2 v3 v4 v5 v6 v7 v8 v9 v10 v11 v12 v13 v14
  have vf8 := vf 8; have vf9 := vf 9; have vf10 := vf 10; have vf11 := vf 11; have vf12 := vf 12; have vf13 := vf 13; have vf14 := vf 14
  clear vf
  go_wp2_with fail
  refine (C.out _ HBW.out).mono ?_
  rintro e W2 ⟨rfl, hb2⟩
  have HV2 := Lib.hid (HV1.out.next (hb2.mono (Nat.le_refl _)))
  have HM2 := Lib.hid (HM.out.trans (Mods.of_below hb2))
  clear v0 v1 v2 v3 v4 v5 v6 v7 v8 v9 v10 v11 v12 v13 v14 vf8 vf9 vf10 vf11 vf12 vf13 vf14
  clear hb2 C HV1 HM HBW
  rcases eo with _ | ⟨x1, x2⟩
  · dsimp only [entR]
    go_upto_region 4 with fail
    have HV3 := Lib.hid (HV2.out.alloc (prObj 0 0))
    have HM3 := Lib.hid (HM2.out.alloc (prObj 0 0))
    clear HV2 HM2
    generalize (W2.alloc (.cells #[.int .i64 0, .int .i64 0] 89)) = W3 at *
    have C2 := Lib.hid (ckpasses_any HV3.out 0 0 0)
    have HE : Hid (er = 0) := HER.out
    have HO : Hid (ok = true) := HOK.out
    go_wp2_with fail
    refine C2.out.mono ?_
    rintro e W4 ⟨rfl, hv4, hm4⟩
    have HV4 := Lib.hid hv4
    have HM4 := Lib.hid (HM3.out.trans hm4)
    clear hv4 hm4 HV3 HM3 C2
    go_wp2
    go_ret
    rw [HE.out, HO.out]
    exact ⟨rfl, HV4.out, HM4.out⟩
  · dsimp only [entR]
    go_upto_region 4 with fail
    have HV3 := Lib.hid (HV2.out.alloc (prObj x1 x2))
    have HM3 := Lib.hid (HM2.out.alloc (prObj x1 x2))
    clear HV2 HM2
    generalize (W2.alloc (.cells #[.int .i64 x1, .int .i64 x2] 89)) = W3 at *
    have C2 := Lib.hid (ckpasses_any HV3.out 23 0 0)
    have HE : Hid (er = 23) := HER.out
    have HO : Hid (ok = false) := HOK.out
    go_wp2_with fail
    refine C2.out.mono ?_
    rintro e W4 ⟨rfl, hv4, hm4⟩
    have HV4 := Lib.hid hv4
    have HM4 := Lib.hid (HM3.out.trans hm4)
    clear hv4 hm4 HV3 HM3 C2
    go_wp2
    go_ret
    rw [HE.out, HO.out]
    exact ⟨rfl, HV4.out, HM4.out⟩

end

end Go.Proofs.YtcoehkphdfejjaaGreat
