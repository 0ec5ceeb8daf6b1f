/-
  The visitor's block: a block's check goes into the report (its first region is written by wip/lab/genckvb.py).
-/
import Derived.Test.YtcoehkphdfejjaaGreatCkVis
import Derived.Test.YtcoehkphdfejjaaGreatPk7
import Derived.Test.YtcoehkphdfejjaaGreatPk1
import Derived.Deep.Cut
import Derived.Deep.CutRange
import Derived.BigRegion
import Derived.Deep.RegionHeld3
namespace Go.Proofs.YtcoehkphdfejjaaGreat
open Go.RowKit
set_option linter.unusedVariables false
set_option linter.unusedSimpArgs false

/-- Beside the visitor: the result of a block's check in a block of its own, its list. -/
structure VX (w : World) (p : Nat) (A1 : Option Addr) (k1 : Nat) (A2 : Option Addr) (k2 : Nat) (A3 : Option Addr) (k3 : Nat) (c : Ct) (r : Rp) (xb : Nat) (A : Option Addr) (cc : Nat) (x : Rs) (W0 W : World) : Prop where
  vi : VI w p A1 k1 A2 k2 A3 k3 c r W
  row : Row W xb 96 #[.slice A x.out.length cc, .int .i64 x.err, .int .i64 (x.at_ : Int), .int .i64 (x.steps : Int), .int .i64 (x.largest : Int)]
  ne : p ≠ xb
  pl : PL w (.slice A x.out.length cc) x.out W
  md : Mods (Is p) W0 W

section
variable {w W0 W W' : World} {p xb : Nat} {A1 : Option Addr} {k1 : Nat} {A2 : Option Addr} {k2 : Nat} {A3 : Option Addr} {k3 : Nat} {c : Ct}{r r' : Rp} {A : Option Addr} {cc : Nat} {x : Rs}

theorem VX.next (h : VX w p A1 k1 A2 k2 A3 k3 c r xb A cc x W0 W) (hb : Below W.heap.size W W') : VX w p A1 k1 A2 k2 A3 k3 c r xb A cc x W0 W' := ⟨h.vi.next hb, h.row.below hb h.row.lt, h.ne, h.pl.next hb, h.md.trans (Mods.of_below hb)⟩

theorem VX.drewN (h : VX w p A1 k1 A2 k2 A3 k3 c r xb A cc x W0 W) (n : Nat) : VX w p A1 k1 A2 k2 A3 k3 c r xb A cc x W0 (W.drewN n) := h.next (Grew.drewN (Grew.refl W) n).below

theorem VX.drew (h : VX w p A1 k1 A2 k2 A3 k3 c r xb A cc x W0 W) : VX w p A1 k1 A2 k2 A3 k3 c r xb A cc x W0 W.drew := h.drewN 1

theorem VX.put (h : VX w p A1 k1 A2 k2 A3 k3 c r xb A cc x W0 W) (r' : Rp) (k : Nat) (u : Value) (e : (#[.int .i64 c.sa, .int .i64 c.sr, .slice A1 c.bs.length k1, .int .i64 c.ta, .int .i64 c.tr, .int .i64 c.ts, .slice A2 c.ms.length k2, .slice A3 c.inv.length k3, .int .i64 r.err, .int .i64 (r.blk : Int), .int .i64 (r.at_ : Int), .int .i64 (r.blocks : Int), .int .i64 (r.edges : Int), .int .i64 (r.steps : Int), .int .i64 (r.largest : Int)] : Array Value).setIfInBounds k u = #[.int .i64 c.sa, .int .i64 c.sr, .slice A1 c.bs.length k1, .int .i64 c.ta, .int .i64 c.tr, .int .i64 c.ts, .slice A2 c.ms.length k2, .slice A3 c.inv.length k3, .int .i64 r'.err, .int .i64 (r'.blk : Int), .int .i64 (r'.at_ : Int), .int .i64 (r'.blocks : Int), .int .i64 (r'.edges : Int), .int .i64 (r'.steps : Int), .int .i64 (r'.largest : Int)]) : VX w p A1 k1 A2 k2 A3 k3 c r' xb A cc x W0 (W.setCell ⟨p, k, none⟩ u) :=
  ⟨h.vi.put r' k u e, h.row.mods ((Mods.refl (Is p) W).put k u) (fun e => h.ne (by have : xb = p := e; omega)), h.ne, h.pl.put_at h.vi.row (by decide) h.vi.lt ((Mods.refl (Is p) W).put k u), h.md.put k u⟩

theorem VX.mods (h : VX w p A1 k1 A2 k2 A3 k3 c r xb A cc x W0 W) (hv : VI w p A1 k1 A2 k2 A3 k3 c r' W') (hm : Mods (Is p) W W') : VX w p A1 k1 A2 k2 A3 k3 c r' xb A cc x W0 W' :=
  ⟨hv, h.row.mods hm (fun e => h.ne (by have : xb = p := e; omega)), h.ne, h.pl.put_at h.vi.row (by decide) h.vi.lt hm, h.md.trans hm⟩

theorem VX.of {z0 z1 z2 z3 z4 : Value} (h : VI w p A1 k1 A2 k2 A3 k3 c r W) (hb : Below W0.heap.size W0 W) (hp : PL w (.slice A x.out.length cc) x.out W) (hr : Row W xb 96 #[z0, z1, z2, z3, z4]) (hlt : W0.heap.size ≤ xb) (hpl : p < W0.heap.size) (hbz : w.heap.size ≤ W0.heap.size) (hT : 89 ≠ 96) :
    VX w p A1 k1 A2 k2 A3 k3 c r xb A cc x W0 (((((W.setCell ⟨xb, 0, none⟩ (.slice A x.out.length cc)).setCell ⟨xb, 1, none⟩ (.int .i64 x.err)).setCell ⟨xb, 2, none⟩ (.int .i64 (x.at_ : Int))).setCell ⟨xb, 3, none⟩ (.int .i64 (x.steps : Int))).setCell ⟨xb, 4, none⟩ (.int .i64 (x.largest : Int))) :=
  ⟨h.mods (mods5 W xb _ _ _ _ _) (by omega) (by omega), hr.put5 _ _ _ _ _, by omega, hp.put_at hr hT (by omega) (mods5 W xb _ _ _ _ _), Mods.of_below (blw5 hlt hb _ _ _ _ _)⟩

theorem VX.cells (h : VX w p A1 k1 A2 k2 A3 k3 c r xb A cc x W0 W) : W.cell? ⟨xb, 0, none⟩ = some (.slice A x.out.length cc) ∧ W.cell? ⟨xb, 1, none⟩ = some (.int .i64 x.err) ∧ W.cell? ⟨xb, 2, none⟩ = some (.int .i64 (x.at_ : Int)) := ⟨h.row.cell 0, h.row.cell 1, h.row.cell 2⟩

end

/-- What the visitor's block leaves. -/
def MbP (w : World) (p : Nat) (A1 : Option Addr) (k1 : Nat) (A2 : Option Addr) (k2 : Nat) (A3 : Option Addr) (k3 : Nat) (c : Ct) (r' : Rp) (x : Rs) (ok : Bool) (W : World) (e : Ending) (W' : World) : Prop :=
  ∃ A cc, e = .returned (.tuple #[.slice A x.out.length cc, .bool ok]) ∧ VI w p A1 k1 A2 k2 A3 k3 c r' W' ∧ PL w (.slice A x.out.length cc) x.out W' ∧ Mods (Is p) W W'

section
variable {w W : World} {p : Nat} {A1 : Option Addr} {k1 : Nat} {A2 : Option Addr} {k2 : Nat} {A3 : Option Addr} {k3 : Nat} {c : Ct}{r : Rp}

set_option maxRecDepth 100000 in
set_option maxHeartbeats 16000000 in
theorem ckblock_any (h : VI w p A1 k1 A2 k2 A3 k3 c r W) {N n m : Nat} (hfit : FitC c N n m) (hw : c.Wf) (i : Nat) (hi : i < c.bs.length) (hr0 : r.err = 0) (hs : r.steps ≤ 10000000000) (hbk : r.blocks ≤ 1000) (hlg : r.largest ≤ 400000) :
    Calls Tryz.prog 26 #[.pointer (some ⟨p, 0, none⟩), .int .i64 (i : Int)] W (MbP w p A1 k1 A2 k2 A3 k3 c (visitR c i r) (ckB c i) ((ckB c i).err == 0) W) := by
  have mixed : Tryz.prog.follows .mixedOrders = true := by kernel_rfl
  have him : i < c.ms.length := by rw [← hfit.len]; exact hi
  have hii : i < c.inv.length := by rw [hfit.ilen]; exact hi
  obtain ⟨b1, o1, rfl, hb1, hB1⟩ := h.see.bs.at_ hi
  obtain ⟨b2, o2, rfl, hb2, hB2⟩ := h.see.ms.at_ him
  obtain ⟨b, o, Ai, ci, rfl, hb3, hc3, hci3, hcm3, hs3⟩ := h.see.inv.at_ hii
  obtain ⟨Ac, cc1, hq10, hq1l, hq1m, hq1i⟩ := hB1.code
  obtain ⟨Am, cm1, hq20, hq2l, hq2m, hq2i⟩ := hB2.code
  have hxs := hfit.small hi
  obtain ⟨X, hX⟩ : ∃ z, z = ckB c i := ⟨_, rfl⟩
  have hXE : X = checkE c.bs[i].code c.ms[i].code c.bs[i].term c.ms[i].term (tmP c.bs[i].term c.ms[i].term) c.inv[i] 1048576 := by rw [hX]; unfold ckB; rw [blkAt_lt hi, mblkAt_lt him, Ct.i_lt hii]
  have hops : ∀ rows, Chn c.bs[i].code c.ms[i].code 0 0 rows → ∀ e ∈ blkOps c.bs[i].code c.ms[i].code rows c.bs[i].term c.ms[i].term, e.In rg60 lc120 := by
    have := hfit.ops hi
    rw [blkAt_lt hi, mblkAt_lt him] at this
    exact this
  obtain ⟨hv1, hv2, hv3, hv4⟩ := hfit.inv _ (List.getElem_mem hii)
  have hl1 : c.bs[i].code.length ≤ 300 := Nat.le_trans (codeN_mem c.bs i hi) hfit.code
  have hl2 : c.ms[i].code.length ≤ 1300 := Nat.le_trans (mcodeN_mem c.ms i him) hfit.mcode
  have C1 : Hid (∀ V, Below W.heap.size W V → Calls Tryz.prog 48 #[.agg #[.slice Ac c.bs[i].code.length cc1, .int .i64 c.bs[i].term.kind, .int .i64 c.bs[i].term.a, .int .i64 c.bs[i].term.to, .int .i64 c.bs[i].term.el], .agg #[.slice Am c.ms[i].code.length cm1, .int .i64 c.ms[i].term.kind, .int .i64 c.ms[i].term.a, .int .i64 c.ms[i].term.to, .int .i64 c.ms[i].term.el], .slice Ai c.inv[i].length ci, .int .i64 1048576] V fun x w' => ∃ A' c', x = .returned (.agg #[.slice A' X.out.length c', .int .i64 X.err, .int .i64 (X.at_ : Int), .int .i64 (X.steps : Int), .int .i64 (X.largest : Int)]) ∧ PL V (.slice A' X.out.length c') X.out w') := fun V hV => by
    rw [hXE]
    have hz := Nat.le_trans h.blw.size hV.size
    have hV' := hV.mono h.blw.size
    exact bcheck_any ⟨rfl, hq1l, hq1m, (hq1i.below hV').more hz⟩ ⟨rfl, hq2l, hq2m, (hq2i.below hV').more hz⟩ ((hs3.below hV').more hz) hv1 hv4 room120 (by omega) (by omega) (by omega) hops (hfit.ft.ins _ (List.getElem_mem him)) (by have := hfit.hn; omega) ((hfit.ft.tm _ (List.getElem_mem him)).mono (by have := hfit.b40; have := hfit.len; omega))
  have F10 := Lib.hid hq10; have F11 := Lib.hid hB1.t0; have F12 := Lib.hid hB1.t1; have F13 := Lib.hid hB1.t2; have F14 := Lib.hid hB1.t3
  have F20 := Lib.hid hq20; have F21 := Lib.hid hB2.t0; have F22 := Lib.hid hB2.t1; have F23 := Lib.hid hB2.t2; have F24 := Lib.hid hB2.t3
  have F3 := Lib.hid hc3
  rw [← hX] at hxs ⊢
  have hVS : visitR c i r = passR ⟨r.err, r.blk, r.at_, r.blocks + 1, r.edges, r.steps + X.steps, max r.largest X.largest⟩ X.err i X.at_ := by
    unfold visitR passR
    rw [← hX]
    by_cases h9 : X.err = 0
    · rw [if_pos h9, if_pos h9, if_pos h9, h9, hr0]
    · rw [if_neg h9, if_neg h9, if_neg h9]
  rw [hVS]
  obtain ⟨r4, hr4⟩ : ∃ z : Rp, z = passR ⟨r.err, r.blk, r.at_, r.blocks + 1, r.edges, r.steps + X.steps, max r.largest X.largest⟩ X.err i X.at_ := ⟨_, rfl⟩
  obtain ⟨ok, hok⟩ : ∃ z : Bool, z = (X.err == 0) := ⟨_, rfl⟩
  rw [← hr4, ← hok]
  have HR4 := Lib.hid hr4
  have HOK := Lib.hid hok
  clear hr4 hok
  obtain ⟨nb, hnb⟩ : ∃ z, z = c.bs.length := ⟨_, rfl⟩
  have hn1 : c.ms.length = nb := by rw [hnb, hfit.len]
  have hn2 : c.inv.length = nb := by rw [hnb, hfit.ilen]
  have hnb40 : nb ≤ 40 := by rw [hnb]; exact hfit.b40
  have hib : i < nb := by rw [hnb]; exact hi
  have hiz : (i : Int) < (nb : Int) := by omega
  have hbz := h.blw.size
  have hpz := h.lt
  have hpl := h.row.lt
  have g1 : b1 < W.heap.size := by omega
  have g2 : b2 < W.heap.size := by omega
  have g3 : b < W.heap.size := by omega
  have HBZ := Lib.hid h.blw
  obtain ⟨hx3, hx4, hx5⟩ := hxs.2.2
  clear hxs hVS
  clear hq10 hq1l hq1m hq1i hq20 hq2l hq2m hq2i hB1 hB2 hc3 hci3 hcm3 hs3 hXE hops hv1 hv2 hv3 hv4 hX hfit
  generalize c.bs[i].term = bt at *
  generalize c.ms[i].term = mt at *
  generalize c.bs[i].code.length = lc at *
  generalize c.ms[i].code.length = lm at *
  generalize c.inv[i].length = li at *
  have HVI := Lib.hid h
  have v2 := h.row.cell 2; have v6 := h.row.cell 6; have v7 := h.row.cell 7
  simp only [List.getElem?_toArray, List.getElem?_cons_zero, List.getElem?_cons_succ] at v2 v6 v7
  rw [← hnb] at v2
  rw [hn1] at v6
  rw [hn2] at v7
  clear h hi him hii hn1 hn2 hnb
  go_enter Tryz.func26, Tryz.ntmps26
  go_upto_region 1 with fail
  have HS1 : Hid (∀ V, Below W.heap.size W V → (V.cell? ⟨p, 2, none⟩ = some (.slice (some ⟨b1, o1, none⟩) nb k1) ∧ V.cell? ⟨p, 6, none⟩ = some (.slice (some ⟨b2, o2, none⟩) nb k2) ∧ V.cell? ⟨p, 7, none⟩ = some (.slice (some ⟨b, o, none⟩) nb k3)) ∧ (V.cell? ⟨b1, o1 + i * 5, none⟩ = some (.slice Ac lc cc1) ∧ V.cell? ⟨b1, o1 + i * 5 + 1, none⟩ = some (.int .i64 bt.kind) ∧ V.cell? ⟨b1, o1 + i * 5 + 2, none⟩ = some (.int .i64 bt.a) ∧ V.cell? ⟨b1, o1 + i * 5 + 3, none⟩ = some (.int .i64 bt.to) ∧ V.cell? ⟨b1, o1 + i * 5 + 4, none⟩ = some (.int .i64 bt.el)) ∧ (V.cell? ⟨b2, o2 + i * 5, none⟩ = some (.slice Am lm cm1) ∧ V.cell? ⟨b2, o2 + i * 5 + 1, none⟩ = some (.int .i64 mt.kind) ∧ V.cell? ⟨b2, o2 + i * 5 + 2, none⟩ = some (.int .i64 mt.a) ∧ V.cell? ⟨b2, o2 + i * 5 + 3, none⟩ = some (.int .i64 mt.to) ∧ V.cell? ⟨b2, o2 + i * 5 + 4, none⟩ = some (.int .i64 mt.el)) ∧ V.cell? ⟨b, o + i, none⟩ = some (.slice Ai li ci)) := fun V h => ⟨⟨(h.cell (p := ⟨p, 2, none⟩) hpl).trans v2, (h.cell (p := ⟨p, 6, none⟩) hpl).trans v6, (h.cell (p := ⟨p, 7, none⟩) hpl).trans v7⟩, ⟨(h.cell (p := ⟨b1, o1 + i * 5, none⟩) g1).trans F10.out, (h.cell (p := ⟨b1, o1 + i * 5 + 1, none⟩) g1).trans F11.out, (h.cell (p := ⟨b1, o1 + i * 5 + 2, none⟩) g1).trans F12.out, (h.cell (p := ⟨b1, o1 + i * 5 + 3, none⟩) g1).trans F13.out, (h.cell (p := ⟨b1, o1 + i * 5 + 4, none⟩) g1).trans F14.out⟩, ⟨(h.cell (p := ⟨b2, o2 + i * 5, none⟩) g2).trans F20.out, (h.cell (p := ⟨b2, o2 + i * 5 + 1, none⟩) g2).trans F21.out, (h.cell (p := ⟨b2, o2 + i * 5 + 2, none⟩) g2).trans F22.out, (h.cell (p := ⟨b2, o2 + i * 5 + 3, none⟩) g2).trans F23.out, (h.cell (p := ⟨b2, o2 + i * 5 + 4, none⟩) g2).trans F24.out⟩, (h.cell (p := ⟨b, o + i, none⟩) g3).trans F3.out⟩
  go_cut [6] from 7 to 33 (fun s6 wx => ∃ xb A cc, s6 = .pointer (some ⟨xb, 0, none⟩) ∧ Hid (VX w p (some ⟨b1, o1, none⟩) k1 (some ⟨b2, o2, none⟩) k2 (some ⟨b, o, none⟩) k3 c r xb A cc X W wx))
  case first =>
    go_wp2_with fail
    refine wp_region_held_drew (S := fun w' => (w'.cell? ⟨p, 2, none⟩ = some (.slice (some ⟨b1, o1, none⟩) nb k1) ∧ w'.cell? ⟨p, 6, none⟩ = some (.slice (some ⟨b2, o2, none⟩) nb k2) ∧ w'.cell? ⟨p, 7, none⟩ = some (.slice (some ⟨b, o, none⟩) nb k3)) ∧ (w'.cell? ⟨b1, o1 + i * 5, none⟩ = some (.slice Ac lc cc1) ∧ w'.cell? ⟨b1, o1 + i * 5 + 1, none⟩ = some (.int .i64 bt.kind) ∧ w'.cell? ⟨b1, o1 + i * 5 + 2, none⟩ = some (.int .i64 bt.a) ∧ w'.cell? ⟨b1, o1 + i * 5 + 3, none⟩ = some (.int .i64 bt.to) ∧ w'.cell? ⟨b1, o1 + i * 5 + 4, none⟩ = some (.int .i64 bt.el)) ∧ (w'.cell? ⟨b2, o2 + i * 5, none⟩ = some (.slice Am lm cm1) ∧ w'.cell? ⟨b2, o2 + i * 5 + 1, none⟩ = some (.int .i64 mt.kind) ∧ w'.cell? ⟨b2, o2 + i * 5 + 2, none⟩ = some (.int .i64 mt.a) ∧ w'.cell? ⟨b2, o2 + i * 5 + 3, none⟩ = some (.int .i64 mt.to) ∧ w'.cell? ⟨b2, o2 + i * 5 + 4, none⟩ = some (.int .i64 mt.el)) ∧ w'.cell? ⟨b, o + i, none⟩ = some (.slice Ai li ci)) (by kernel_rfl) (HS1.out _ (Below.refl _ _).drew) (fun hHeld => ?_)
    have HB0 : Hid (Below W.heap.size W W.drew) := (Below.refl _ _).drew
    generalize hVV : W.drew = V0 at *
    clear hVV
    refine take_at 0 7 (.pointer (some ⟨p, 0, none⟩)) rfl rfl (by kernel_rfl) (by kernel_rfl) (by kernel_rfl) (fun _ _ _ h => h) (Or.inl ⟨by rfl, ?_⟩) hHeld ?_
    · intro w9 hSw
      (try dsimp only at hSw)
      go_simp
      all_goals (first | (intro h9; omega) | omega)
    (try simp only [Act.put, List.setIfInBounds_toArray, List.set_cons_zero, List.set_cons_succ])
    refine take_at 1 8 (.pointer (some ⟨p, 0, none⟩)) rfl rfl (by kernel_rfl) (by kernel_rfl) (by kernel_rfl) (fun _ _ _ h => h) (Or.inl ⟨by rfl, ?_⟩) hHeld ?_
    · intro w9 hSw
      (try dsimp only at hSw)
      go_simp
      all_goals (first | (intro h9; omega) | omega)
    (try simp only [Act.put, List.setIfInBounds_toArray, List.set_cons_zero, List.set_cons_succ])
    refine take_at 2 9 (.pointer (some ⟨p, 0, none⟩)) rfl rfl (by kernel_rfl) (by kernel_rfl) (by kernel_rfl) (fun _ _ _ h => h) (Or.inl ⟨by rfl, ?_⟩) hHeld ?_
    · intro w9 hSw
      (try dsimp only at hSw)
      go_simp
      all_goals (first | (intro h9; omega) | omega)
    (try simp only [Act.put, List.setIfInBounds_toArray, List.set_cons_zero, List.set_cons_succ])
    refine take_at 3 10 (.pointer (some ⟨p, 0, none⟩)) rfl rfl (by kernel_rfl) (by kernel_rfl) (by kernel_rfl) (fun _ _ _ h => h) (Or.inl ⟨by rfl, ?_⟩) hHeld ?_
    · intro w9 hSw
      (try dsimp only at hSw)
      go_simp
      all_goals (first | (intro h9; omega) | omega)
    (try simp only [Act.put, List.setIfInBounds_toArray, List.set_cons_zero, List.set_cons_succ])
    refine take_at 4 11 (.pointer (some ⟨p, 2, none⟩)) rfl rfl (by kernel_rfl) (by kernel_rfl) (by kernel_rfl) (fun _ _ _ h => h) (Or.inl ⟨by rfl, ?_⟩) hHeld ?_
    · intro w9 hSw
      (try dsimp only at hSw)
      go_simp
      all_goals (first | (intro h9; omega) | omega)
    (try simp only [Act.put, List.setIfInBounds_toArray, List.set_cons_zero, List.set_cons_succ])
    refine take_at 5 12 (.slice (some ⟨b1, o1, none⟩) nb k1) rfl rfl (by kernel_rfl) (by kernel_rfl) (by kernel_rfl) (fun _ _ _ h => h) (Or.inl ⟨by rfl, ?_⟩) hHeld ?_
    · intro w9 hSw
      (try dsimp only at hSw)
      go_simp
      all_goals (first | (intro h9; omega) | omega)
    (try simp only [Act.put, List.setIfInBounds_toArray, List.set_cons_zero, List.set_cons_succ])
    refine take_at 6 13 (.int .i64 i) rfl rfl (by kernel_rfl) (by kernel_rfl) (by kernel_rfl) (fun _ _ _ h => h) (Or.inl ⟨by rfl, ?_⟩) hHeld ?_
    · intro w9 hSw
      (try dsimp only at hSw)
      go_simp
      all_goals (first | (intro h9; omega) | omega)
    (try simp only [Act.put, List.setIfInBounds_toArray, List.set_cons_zero, List.set_cons_succ])
    refine take_at 7 14 (.pointer (some ⟨b1, o1 + i * 5, none⟩)) rfl rfl (by kernel_rfl) (by kernel_rfl) (by kernel_rfl) (fun _ _ _ h => h) (Or.inl ⟨by rfl, ?_⟩) hHeld ?_
    · intro w9 hSw
      (try dsimp only at hSw)
      go_simp
      all_goals (first | (intro h9; omega) | omega)
    (try simp only [Act.put, List.setIfInBounds_toArray, List.set_cons_zero, List.set_cons_succ])
    refine take_at 8 15 (.agg #[.slice Ac lc cc1, .int .i64 bt.kind, .int .i64 bt.a, .int .i64 bt.to, .int .i64 bt.el]) rfl rfl (by kernel_rfl) (by kernel_rfl) (by kernel_rfl) (fun _ _ _ h => h) (Or.inl ⟨by rfl, ?_⟩) hHeld ?_
    · intro w9 hSw
      (try dsimp only at hSw)
      go_simp
      all_goals (first | (intro h9; omega) | omega)
    (try simp only [Act.put, List.setIfInBounds_toArray, List.set_cons_zero, List.set_cons_succ])
    refine take_at 9 16 (.pointer (some ⟨p, 0, none⟩)) rfl rfl (by kernel_rfl) (by kernel_rfl) (by kernel_rfl) (fun _ _ _ h => h) (Or.inl ⟨by rfl, ?_⟩) hHeld ?_
    · intro w9 hSw
      (try dsimp only at hSw)
      go_simp
      all_goals (first | (intro h9; omega) | omega)
    (try simp only [Act.put, List.setIfInBounds_toArray, List.set_cons_zero, List.set_cons_succ])
    refine take_at 10 17 (.pointer (some ⟨p, 0, none⟩)) rfl rfl (by kernel_rfl) (by kernel_rfl) (by kernel_rfl) (fun _ _ _ h => h) (Or.inl ⟨by rfl, ?_⟩) hHeld ?_
    · intro w9 hSw
      (try dsimp only at hSw)
      go_simp
      all_goals (first | (intro h9; omega) | omega)
    (try simp only [Act.put, List.setIfInBounds_toArray, List.set_cons_zero, List.set_cons_succ])
    refine take_at 11 18 (.pointer (some ⟨p, 0, none⟩)) rfl rfl (by kernel_rfl) (by kernel_rfl) (by kernel_rfl) (fun _ _ _ h => h) (Or.inl ⟨by rfl, ?_⟩) hHeld ?_
    · intro w9 hSw
      (try dsimp only at hSw)
      go_simp
      all_goals (first | (intro h9; omega) | omega)
    (try simp only [Act.put, List.setIfInBounds_toArray, List.set_cons_zero, List.set_cons_succ])
    refine take_at 12 19 (.pointer (some ⟨p, 3, none⟩)) rfl rfl (by kernel_rfl) (by kernel_rfl) (by kernel_rfl) (fun _ _ _ h => h) (Or.inl ⟨by rfl, ?_⟩) hHeld ?_
    · intro w9 hSw
      (try dsimp only at hSw)
      go_simp
      all_goals (first | (intro h9; omega) | omega)
    (try simp only [Act.put, List.setIfInBounds_toArray, List.set_cons_zero, List.set_cons_succ])
    refine take_at 13 20 (.pointer (some ⟨p, 6, none⟩)) rfl rfl (by kernel_rfl) (by kernel_rfl) (by kernel_rfl) (fun _ _ _ h => h) (Or.inl ⟨by rfl, ?_⟩) hHeld ?_
    · intro w9 hSw
      (try dsimp only at hSw)
      go_simp
      all_goals (first | (intro h9; omega) | omega)
    (try simp only [Act.put, List.setIfInBounds_toArray, List.set_cons_zero, List.set_cons_succ])
    refine take_at 14 21 (.slice (some ⟨b2, o2, none⟩) nb k2) rfl rfl (by kernel_rfl) (by kernel_rfl) (by kernel_rfl) (fun _ _ _ h => h) (Or.inl ⟨by rfl, ?_⟩) hHeld ?_
    · intro w9 hSw
      (try dsimp only at hSw)
      go_simp
      all_goals (first | (intro h9; omega) | omega)
    (try simp only [Act.put, List.setIfInBounds_toArray, List.set_cons_zero, List.set_cons_succ])
    refine take_at 15 22 (.int .i64 i) rfl rfl (by kernel_rfl) (by kernel_rfl) (by kernel_rfl) (fun _ _ _ h => h) (Or.inl ⟨by rfl, ?_⟩) hHeld ?_
    · intro w9 hSw
      (try dsimp only at hSw)
      go_simp
      all_goals (first | (intro h9; omega) | omega)
    (try simp only [Act.put, List.setIfInBounds_toArray, List.set_cons_zero, List.set_cons_succ])
    refine take_at 16 23 (.pointer (some ⟨b2, o2 + i * 5, none⟩)) rfl rfl (by kernel_rfl) (by kernel_rfl) (by kernel_rfl) (fun _ _ _ h => h) (Or.inl ⟨by rfl, ?_⟩) hHeld ?_
    · intro w9 hSw
      (try dsimp only at hSw)
      go_simp
      all_goals (first | (intro h9; omega) | omega)
    (try simp only [Act.put, List.setIfInBounds_toArray, List.set_cons_zero, List.set_cons_succ])
    refine take_at 17 24 (.agg #[.slice Am lm cm1, .int .i64 mt.kind, .int .i64 mt.a, .int .i64 mt.to, .int .i64 mt.el]) rfl rfl (by kernel_rfl) (by kernel_rfl) (by kernel_rfl) (fun _ _ _ h => h) (Or.inl ⟨by rfl, ?_⟩) hHeld ?_
    · intro w9 hSw
      (try dsimp only at hSw)
      go_simp
      all_goals (first | (intro h9; omega) | omega)
    (try simp only [Act.put, List.setIfInBounds_toArray, List.set_cons_zero, List.set_cons_succ])
    refine take_at 18 25 (.pointer (some ⟨p, 0, none⟩)) rfl rfl (by kernel_rfl) (by kernel_rfl) (by kernel_rfl) (fun _ _ _ h => h) (Or.inl ⟨by rfl, ?_⟩) hHeld ?_
    · intro w9 hSw
      (try dsimp only at hSw)
      go_simp
      all_goals (first | (intro h9; omega) | omega)
    (try simp only [Act.put, List.setIfInBounds_toArray, List.set_cons_zero, List.set_cons_succ])
    refine take_at 19 26 (.pointer (some ⟨p, 0, none⟩)) rfl rfl (by kernel_rfl) (by kernel_rfl) (by kernel_rfl) (fun _ _ _ h => h) (Or.inl ⟨by rfl, ?_⟩) hHeld ?_
    · intro w9 hSw
      (try dsimp only at hSw)
      go_simp
      all_goals (first | (intro h9; omega) | omega)
    (try simp only [Act.put, List.setIfInBounds_toArray, List.set_cons_zero, List.set_cons_succ])
    refine take_at 20 27 (.pointer (some ⟨p, 0, none⟩)) rfl rfl (by kernel_rfl) (by kernel_rfl) (by kernel_rfl) (fun _ _ _ h => h) (Or.inl ⟨by rfl, ?_⟩) hHeld ?_
    · intro w9 hSw
      (try dsimp only at hSw)
      go_simp
      all_goals (first | (intro h9; omega) | omega)
    (try simp only [Act.put, List.setIfInBounds_toArray, List.set_cons_zero, List.set_cons_succ])
    refine take_at 21 28 (.pointer (some ⟨p, 7, none⟩)) rfl rfl (by kernel_rfl) (by kernel_rfl) (by kernel_rfl) (fun _ _ _ h => h) (Or.inl ⟨by rfl, ?_⟩) hHeld ?_
    · intro w9 hSw
      (try dsimp only at hSw)
      go_simp
      all_goals (first | (intro h9; omega) | omega)
    (try simp only [Act.put, List.setIfInBounds_toArray, List.set_cons_zero, List.set_cons_succ])
    refine take_at 22 29 (.slice (some ⟨b, o, none⟩) nb k3) rfl rfl (by kernel_rfl) (by kernel_rfl) (by kernel_rfl) (fun _ _ _ h => h) (Or.inl ⟨by rfl, ?_⟩) hHeld ?_
    · intro w9 hSw
      (try dsimp only at hSw)
      go_simp
      all_goals (first | (intro h9; omega) | omega)
    (try simp only [Act.put, List.setIfInBounds_toArray, List.set_cons_zero, List.set_cons_succ])
    refine take_at 23 30 (.int .i64 i) rfl rfl (by kernel_rfl) (by kernel_rfl) (by kernel_rfl) (fun _ _ _ h => h) (Or.inl ⟨by rfl, ?_⟩) hHeld ?_
    · intro w9 hSw
      (try dsimp only at hSw)
      go_simp
      all_goals (first | (intro h9; omega) | omega)
    (try simp only [Act.put, List.setIfInBounds_toArray, List.set_cons_zero, List.set_cons_succ])
    refine take_at 24 31 (.pointer (some ⟨b, o + i, none⟩)) rfl rfl (by kernel_rfl) (by kernel_rfl) (by kernel_rfl) (fun _ _ _ h => h) (Or.inl ⟨by rfl, ?_⟩) hHeld ?_
    · intro w9 hSw
      (try dsimp only at hSw)
      go_simp
      all_goals (first | (intro h9; omega) | omega)
    (try simp only [Act.put, List.setIfInBounds_toArray, List.set_cons_zero, List.set_cons_succ])
    refine take_at 25 32 (.slice Ai li ci) rfl rfl (by kernel_rfl) (by kernel_rfl) (by kernel_rfl) (fun _ _ _ h => h) (Or.inl ⟨by rfl, ?_⟩) hHeld ?_
    · intro w9 hSw
      (try dsimp only at hSw)
      go_simp
      all_goals (first | (intro h9; omega) | omega)
    (try simp only [Act.put, List.setIfInBounds_toArray, List.set_cons_zero, List.set_cons_succ])
    refine wpAnyH_ready (rs := [26, 27]) (by kernel_rfl) (by simp) ?_
    refine AllReadyH.cons rfl (fun K hK => ?_) ?_
    · go_simp
      refine (C1.out V0 HB0.out).mono ?_
      rintro e V1 ⟨A, cc, rfl, hP⟩
      (try go_wp2_with fail)
      have HPL := Lib.hid (hP.base (HBZ.out.trans (HB0.out.mono hbz)))
      have HB1 := Lib.hid (HB0.out.trans (hP.blw.mono HB0.out.size))
      refine hK.out _ _ (HS1.out _ HB1.out) (fun hHeld => ?_)
      clear hK K
      refine wpAnyH_ready (rs := [27]) (by kernel_rfl) (by simp) ?_
      refine AllReadyH.cons rfl (fun K hK => ?_) ?_
      · go_simp
        have HB2 := Lib.hid (HB1.out.alloc HB1.out.size (.cells #[.slice none 0 0, .int .i64 0, .int .i64 0, .int .i64 0, .int .i64 0] 96))
        have HRO := Lib.hid (Row.new V1 96 #[.slice none 0 0, .int .i64 0, .int .i64 0, .int .i64 0, .int .i64 0])
        have hlt : W.heap.size ≤ V1.heap.size := HB1.out.size
        have HP2 := Lib.hid (HPL.out.alloc (.cells #[.slice none 0 0, .int .i64 0, .int .i64 0, .int .i64 0, .int .i64 0] 96))
        clear HPL
        have HPL := HP2
        clear HP2
        refine hK.out _ _ (HS1.out _ HB2.out) (fun hHeld => ?_)
        clear hK K
        generalize V1.heap.size = xb at *
        generalize V1.alloc (.cells #[.slice none 0 0, .int .i64 0, .int .i64 0, .int .i64 0, .int .i64 0] 96) = V2 at *
        refine wpAnyH_ready (rs := [28]) (by kernel_rfl) (by simp) ?_
        refine AllReadyH.cons rfl (fun K hK => ?_) ?_
        · have hrow := HRO.out
          have f0 := hrow.cell 0; have f1 := hrow.cell 1; have f2 := hrow.cell 2; have f3 := hrow.cell 3; have f4 := hrow.cell 4
          simp only [List.getElem?_toArray, List.getElem?_cons_zero, List.getElem?_cons_succ] at f0 f1 f2 f3 f4
          have q0 := hrow.frozen 0; have q1 := hrow.frozen 1; have q2 := hrow.frozen 2; have q3 := hrow.frozen 3; have q4 := hrow.frozen 4
          have HB9 := Lib.hid (blw5 hlt HB2.out (.slice A X.out.length cc) (.int .i64 X.err) (.int .i64 (X.at_ : Int)) (.int .i64 (X.steps : Int)) (.int .i64 (X.largest : Int)))
          have HXB := Lib.hid (VX.of (HVI.out.next HB2.out) HB2.out HPL.out hrow hlt hpl hbz (by decide))
          go_simp
          refine hK.out _ _ (HS1.out _ HB9.out) (fun hHeld => ?_)
          clear hK K f0 f1 f2 f3 f4 q0 q1 q2 q3 q4 hrow
          refine wpAnyH_done (by kernel_rfl) ?_ _
          clear hHeld
          go_wp2_with fail
          go_meet
          case rel => exact ⟨xb, A, cc, rfl, HXB.out⟩
        exact AllReadyH.nil
      exact AllReadyH.nil
    refine AllReadyH.cons rfl (fun K hK => ?_) ?_
    · go_simp
      have HB1 := Lib.hid (HB0.out.alloc HB0.out.size (.cells #[.slice none 0 0, .int .i64 0, .int .i64 0, .int .i64 0, .int .i64 0] 96))
      have HRO := Lib.hid (Row.new V0 96 #[.slice none 0 0, .int .i64 0, .int .i64 0, .int .i64 0, .int .i64 0])
      have hlt : W.heap.size ≤ V0.heap.size := HB0.out.size
      refine hK.out _ _ (HS1.out _ HB1.out) (fun hHeld => ?_)
      clear hK K
      generalize V0.heap.size = xb at *
      generalize V0.alloc (.cells #[.slice none 0 0, .int .i64 0, .int .i64 0, .int .i64 0, .int .i64 0] 96) = V1 at *
      refine wpAnyH_ready (rs := [26]) (by kernel_rfl) (by simp) ?_
      refine AllReadyH.cons rfl (fun K hK => ?_) ?_
      · go_simp
        refine (C1.out V1 HB1.out).mono ?_
        rintro e V2 ⟨A, cc, rfl, hP⟩
        (try go_wp2_with fail)
        have HPL := Lib.hid (hP.base (HBZ.out.trans (HB1.out.mono hbz)))
        have HB2 := Lib.hid (HB1.out.trans (hP.blw.mono HB1.out.size))
        refine hK.out _ _ (HS1.out _ HB2.out) (fun hHeld => ?_)
        clear hK K
        have HR2 := Lib.hid (HRO.out.below hP.blw HRO.out.lt)
        refine wpAnyH_ready (rs := [28]) (by kernel_rfl) (by simp) ?_
        refine AllReadyH.cons rfl (fun K hK => ?_) ?_
        · have hrow := HR2.out
          have f0 := hrow.cell 0; have f1 := hrow.cell 1; have f2 := hrow.cell 2; have f3 := hrow.cell 3; have f4 := hrow.cell 4
          simp only [List.getElem?_toArray, List.getElem?_cons_zero, List.getElem?_cons_succ] at f0 f1 f2 f3 f4
          have q0 := hrow.frozen 0; have q1 := hrow.frozen 1; have q2 := hrow.frozen 2; have q3 := hrow.frozen 3; have q4 := hrow.frozen 4
          have HB9 := Lib.hid (blw5 hlt HB2.out (.slice A X.out.length cc) (.int .i64 X.err) (.int .i64 (X.at_ : Int)) (.int .i64 (X.steps : Int)) (.int .i64 (X.largest : Int)))
          have HXB := Lib.hid (VX.of (HVI.out.next HB2.out) HB2.out HPL.out hrow hlt hpl hbz (by decide))
          go_simp
          refine hK.out _ _ (HS1.out _ HB9.out) (fun hHeld => ?_)
          clear hK K f0 f1 f2 f3 f4 q0 q1 q2 q3 q4 hrow
          refine wpAnyH_done (by kernel_rfl) ?_ _
          clear hHeld
          go_wp2_with fail
          go_meet
          case rel => exact ⟨xb, A, cc, rfl, HXB.out⟩
        exact AllReadyH.nil
      exact AllReadyH.nil
    exact AllReadyH.nil
  case rest =>
    obtain ⟨xb, A, cc, rfl, HXB⟩ := hcut
    clear C1 F10 F11 F12 F13 F14 F20 F21 F22 F23 F24 F3 HVI HBZ HS1 v2 v6 v7
    obtain ⟨st, blk, at1, blocks, edges, steps, largest⟩ := r
    obtain ⟨xo, xe, xat, xst, xla⟩ := X
    dsimp only at *
    subst hr0
    have HX1 := Lib.hid (HXB.out.put ⟨0, blk, at1, blocks + 1, edges, steps, largest⟩ 11 (.int .i64 ((blocks : Int) + 1)) (by simp))
    have HVX := Lib.hid HXB.out.vi
    have v0 := HVX.out.row.cell 0; have v1 := HVX.out.row.cell 1; have v2 := HVX.out.row.cell 2; have v3 := HVX.out.row.cell 3
    have v4 := HVX.out.row.cell 4; have v5 := HVX.out.row.cell 5; have v6 := HVX.out.row.cell 6; have v7 := HVX.out.row.cell 7
    have v8 := HVX.out.row.cell 8; have v9 := HVX.out.row.cell 9; have v10 := HVX.out.row.cell 10; have v11 := HVX.out.row.cell 11
    have v12 := HVX.out.row.cell 12; have v13 := HVX.out.row.cell 13; have v14 := HVX.out.row.cell 14
    have vf := fun k => HVX.out.row.frozen k
    simp only [List.getElem?_toArray, List.getElem?_cons_zero, List.getElem?_cons_succ] at v0 v1 v2 v3 v4 v5 v6 v7 v8 v9 v10 v11 v12 v13 v14
    have vf8 := vf 8; have vf9 := vf 9; have vf10 := vf 10; have vf11 := vf 11; have vf12 := vf 12; have vf13 := vf 13; have vf14 := vf 14
    clear vf
    go_upto_region 3 with fail
    clear v0 v1 v2 v3 v4 v5 v6 v7 v8 v9 v10 v11 v12 v13 v14 vf8 vf9 vf10 vf11 vf12 vf13 vf14
    clear HVX HXB
    generalize (wc.setCell ⟨p, 11, none⟩ (.int .i64 ((blocks : Int) + 1))) = W1 at *
    have HVX := Lib.hid HX1.out.vi
    have v0 := HVX.out.row.cell 0; have v1 := HVX.out.row.cell 1; have v2 := HVX.out.row.cell 2; have v3 := HVX.out.row.cell 3
    have v4 := HVX.out.row.cell 4; have v5 := HVX.out.row.cell 5; have v6 := HVX.out.row.cell 6; have v7 := HVX.out.row.cell 7
    have v8 := HVX.out.row.cell 8; have v9 := HVX.out.row.cell 9; have v10 := HVX.out.row.cell 10; have v11 := HVX.out.row.cell 11
    have v12 := HVX.out.row.cell 12; have v13 := HVX.out.row.cell 13; have v14 := HVX.out.row.cell 14
    have vf := fun k => HVX.out.row.frozen k
    simp only [List.getElem?_toArray, List.getElem?_cons_zero, List.getElem?_cons_succ] at v0 v1 v2 v3 v4 v5 v6 v7 v8 v9 v10 v11 v12 v13 v14
    have vf8 := vf 8; have vf9 := vf 9; have vf10 := vf 10; have vf11 := vf 11; have vf12 := vf 12; have vf13 := vf 13; have vf14 := vf 14
    clear vf
    have x0 := HX1.out.row.cell 0; have x1 := HX1.out.row.cell 1; have x2 := HX1.out.row.cell 2; have x3 := HX1.out.row.cell 3; have x4 := HX1.out.row.cell 4
    simp only [List.getElem?_toArray, List.getElem?_cons_zero, List.getElem?_cons_succ] at x0 x1 x2 x3 x4
    go_wp2_with fail
    go_region
    go_upto_region 4 with fail
    clear v0 v1 v2 v3 v4 v5 v6 v7 v8 v9 v10 v11 v12 v13 v14 vf8 vf9 vf10 vf11 vf12 vf13 vf14
    clear x0 x1 x2 x3 x4 HVX
    have HX2 : Hid (VX w p (some ⟨b1, o1, none⟩) k1 (some ⟨b2, o2, none⟩) k2 (some ⟨b, o, none⟩) k3 c ⟨0, blk, at1, blocks + 1, edges, steps + xst, largest⟩ xb A cc ⟨xo, xe, xat, xst, xla⟩ W (W1.setCell ⟨p, 13, none⟩ (.int .i64 ((steps : Int) + (xst : Int)))).drew) := (HX1.out.put ⟨0, blk, at1, blocks + 1, edges, steps + xst, largest⟩ 13 (.int .i64 ((steps : Int) + (xst : Int))) (by simp)).drew
    clear HX1
    generalize (W1.setCell ⟨p, 13, none⟩ (.int .i64 ((steps : Int) + (xst : Int)))).drew = W2 at *
    have HVX := Lib.hid HX2.out.vi
    have v0 := HVX.out.row.cell 0; have v1 := HVX.out.row.cell 1; have v2 := HVX.out.row.cell 2; have v3 := HVX.out.row.cell 3
    have v4 := HVX.out.row.cell 4; have v5 := HVX.out.row.cell 5; have v6 := HVX.out.row.cell 6; have v7 := HVX.out.row.cell 7
    have v8 := HVX.out.row.cell 8; have v9 := HVX.out.row.cell 9; have v10 := HVX.out.row.cell 10; have v11 := HVX.out.row.cell 11
    have v12 := HVX.out.row.cell 12; have v13 := HVX.out.row.cell 13; have v14 := HVX.out.row.cell 14
    have vf := fun k => HVX.out.row.frozen k
    simp only [List.getElem?_toArray, List.getElem?_cons_zero, List.getElem?_cons_succ] at v0 v1 v2 v3 v4 v5 v6 v7 v8 v9 v10 v11 v12 v13 v14
    have vf8 := vf 8; have vf9 := vf 9; have vf10 := vf 10; have vf11 := vf 11; have vf12 := vf 12; have vf13 := vf 13; have vf14 := vf 14
    clear vf
    have x0 := HX2.out.row.cell 0; have x1 := HX2.out.row.cell 1; have x2 := HX2.out.row.cell 2; have x3 := HX2.out.row.cell 3; have x4 := HX2.out.row.cell 4
    simp only [List.getElem?_toArray, List.getElem?_cons_zero, List.getElem?_cons_succ] at x0 x1 x2 x3 x4
    go_wp2_with fail
    go_region
    go_upto_region 5 with fail
    clear v0 v1 v2 v3 v4 v5 v6 v7 v8 v9 v10 v11 v12 v13 v14 vf8 vf9 vf10 vf11 vf12 vf13 vf14
    clear x0 x1 x2 x3 x4 HVX
    have HX3 : Hid (VX w p (some ⟨b1, o1, none⟩) k1 (some ⟨b2, o2, none⟩) k2 (some ⟨b, o, none⟩) k3 c ⟨0, blk, at1, blocks + 1, edges, steps + xst, max largest xla⟩ xb A cc ⟨xo, xe, xat, xst, xla⟩ W (W2.setCell ⟨p, 14, none⟩ (.int .i64 (if largest < xla then (xla : Int) else (largest : Int)))).drew) := (HX2.out.put ⟨0, blk, at1, blocks + 1, edges, steps + xst, max largest xla⟩ 14 (.int .i64 (if largest < xla then (xla : Int) else (largest : Int))) (by
      have : (if largest < xla then (xla : Int) else (largest : Int)) = ((max largest xla : Nat) : Int) := by split <;> omega
      rw [this]
      rfl)).drew
    clear HX2
    generalize (if largest < xla then (xla : Int) else (largest : Int)) = mz at *
    generalize (W2.setCell ⟨p, 14, none⟩ (.int .i64 mz)).drew = W3 at *
    have hr4 := HR4.out
    have hok := HOK.out
    obtain ⟨r3, hr3⟩ : ∃ z : Rp, z = ⟨0, blk, at1, blocks + 1, edges, steps + xst, max largest xla⟩ := ⟨_, rfl⟩
    rw [← hr3] at HX3 hr4
    clear hr3 HR4 HOK
    have C5 : Hid (∀ V, VX w p (some ⟨b1, o1, none⟩) k1 (some ⟨b2, o2, none⟩) k2 (some ⟨b, o, none⟩) k3 c r3 xb A cc ⟨xo, xe, xat, xst, xla⟩ W V → Calls Tryz.prog 47 #[.pointer (some ⟨p, 0, none⟩), .int .i64 xe, .int .i64 (i : Int), .int .i64 (xat : Int)] V fun e W' => e = .returned (.bool ok) ∧ VX w p (some ⟨b1, o1, none⟩) k1 (some ⟨b2, o2, none⟩) k2 (some ⟨b, o, none⟩) k3 c r4 xb A cc ⟨xo, xe, xat, xst, xla⟩ W W') := fun V hV => (ckpasses_any hV.vi xe i xat).mono fun e W' ⟨h1, h2, h3⟩ => ⟨by rw [hok]; exact h1, by rw [hr4]; exact hV.mods h2 h3⟩
    clear hr4 hok
    have hG := HX3.out
    clear HX3
    go_wp2_with fail
    refine wp_region_held_drew (S := fun w' => w'.cell? ⟨xb, 0, none⟩ = some (.slice A xo.length cc) ∧ w'.cell? ⟨xb, 1, none⟩ = some (.int .i64 xe) ∧ w'.cell? ⟨xb, 2, none⟩ = some (.int .i64 (xat : Int))) (by kernel_rfl) hG.drew.cells (fun hHeld => ?_)
    have HG0 := Lib.hid hG.drew
    clear hG
    generalize hVV : W3.drew = V0 at *
    clear hVV
    refine take_at 0 66 (.pointer (some ⟨xb, 0, none⟩)) rfl rfl (by kernel_rfl) (by kernel_rfl) (by kernel_rfl) (fun _ _ _ h => h) (Or.inl ⟨by rfl, ?_⟩) hHeld ?_
    · intro w9 hSw
      (try dsimp only at hSw)
      go_simp
      all_goals (first | (intro h9; omega) | omega)
    (try simp only [Act.put, List.setIfInBounds_toArray, List.set_cons_zero, List.set_cons_succ])
    refine take_at 1 67 (.slice A xo.length cc) rfl rfl (by kernel_rfl) (by kernel_rfl) (by kernel_rfl) (fun _ _ _ h => h) (Or.inl ⟨by rfl, ?_⟩) hHeld ?_
    · intro w9 hSw
      (try dsimp only at hSw)
      go_simp
      all_goals (first | (intro h9; omega) | omega)
    (try simp only [Act.put, List.setIfInBounds_toArray, List.set_cons_zero, List.set_cons_succ])
    refine take_at 2 68 (.pointer (some ⟨p, 0, none⟩)) rfl rfl (by kernel_rfl) (by kernel_rfl) (by kernel_rfl) (fun _ _ _ h => h) (Or.inl ⟨by rfl, ?_⟩) hHeld ?_
    · intro w9 hSw
      (try dsimp only at hSw)
      go_simp
      all_goals (first | (intro h9; omega) | omega)
    (try simp only [Act.put, List.setIfInBounds_toArray, List.set_cons_zero, List.set_cons_succ])
    refine take_at 3 69 (.pointer (some ⟨xb, 1, none⟩)) rfl rfl (by kernel_rfl) (by kernel_rfl) (by kernel_rfl) (fun _ _ _ h => h) (Or.inl ⟨by rfl, ?_⟩) hHeld ?_
    · intro w9 hSw
      (try dsimp only at hSw)
      go_simp
      all_goals (first | (intro h9; omega) | omega)
    (try simp only [Act.put, List.setIfInBounds_toArray, List.set_cons_zero, List.set_cons_succ])
    refine take_at 4 70 (.int .i64 xe) rfl rfl (by kernel_rfl) (by kernel_rfl) (by kernel_rfl) (fun _ _ _ h => h) (Or.inl ⟨by rfl, ?_⟩) hHeld ?_
    · intro w9 hSw
      (try dsimp only at hSw)
      go_simp
      all_goals (first | (intro h9; omega) | omega)
    (try simp only [Act.put, List.setIfInBounds_toArray, List.set_cons_zero, List.set_cons_succ])
    refine take_at 5 71 (.int .i64 i) rfl rfl (by kernel_rfl) (by kernel_rfl) (by kernel_rfl) (fun _ _ _ h => h) (Or.inl ⟨by rfl, ?_⟩) hHeld ?_
    · intro w9 hSw
      (try dsimp only at hSw)
      go_simp
      all_goals (first | (intro h9; omega) | omega)
    (try simp only [Act.put, List.setIfInBounds_toArray, List.set_cons_zero, List.set_cons_succ])
    refine take_at 6 72 (.pointer (some ⟨xb, 2, none⟩)) rfl rfl (by kernel_rfl) (by kernel_rfl) (by kernel_rfl) (fun _ _ _ h => h) (Or.inl ⟨by rfl, ?_⟩) hHeld ?_
    · intro w9 hSw
      (try dsimp only at hSw)
      go_simp
      all_goals (first | (intro h9; omega) | omega)
    (try simp only [Act.put, List.setIfInBounds_toArray, List.set_cons_zero, List.set_cons_succ])
    refine take_at 7 73 (.int .i64 (xat : Int)) rfl rfl (by kernel_rfl) (by kernel_rfl) (by kernel_rfl) (fun _ _ _ h => h) (Or.inl ⟨by rfl, ?_⟩) hHeld ?_
    · intro w9 hSw
      (try dsimp only at hSw)
      go_simp
      all_goals (first | (intro h9; omega) | omega)
    (try simp only [Act.put, List.setIfInBounds_toArray, List.set_cons_zero, List.set_cons_succ])
    refine wpAnyH_ready (rs := [8]) (by kernel_rfl) (by simp) ?_
    refine AllReadyH.cons rfl (fun K hK => ?_) ?_
    · go_simp
      refine (C5.out V0 HG0.out).mono ?_
      rintro e V1 ⟨rfl, hG⟩
      (try go_wp2_with fail)
      have HG := Lib.hid hG
      refine hK.out _ _ hG.cells (fun hHeld => ?_)
      clear hK K hG C5 HG0
      refine take_at 9 4 (.slice A xo.length cc) rfl rfl (by kernel_rfl) (by kernel_rfl) (by kernel_rfl) (fun _ _ _ h => h) (Or.inl ⟨by rfl, ?_⟩) hHeld ?_
      · intro w9 hSw
        (try dsimp only at hSw)
        go_simp
        all_goals (first | (intro h9; omega) | omega)
      (try simp only [Act.put, List.setIfInBounds_toArray, List.set_cons_zero, List.set_cons_succ])
      refine take_at 10 5 (.bool ok) rfl rfl (by kernel_rfl) (by kernel_rfl) (by kernel_rfl) (fun _ _ _ h => h) (Or.inl ⟨by rfl, ?_⟩) hHeld ?_
      · intro w9 hSw
        (try dsimp only at hSw)
        go_simp
        all_goals (first | (intro h9; omega) | omega)
      (try simp only [Act.put, List.setIfInBounds_toArray, List.set_cons_zero, List.set_cons_succ])
      refine wpAnyH_done (by kernel_rfl) ?_ _
      clear hHeld
      go_wp2
      first | go_ret2 | go_ret
      exact ⟨A, cc, rfl, HG.out.vi, HG.out.pl, HG.out.md⟩
    exact AllReadyH.nil

end

end Go.Proofs.YtcoehkphdfejjaaGreat
