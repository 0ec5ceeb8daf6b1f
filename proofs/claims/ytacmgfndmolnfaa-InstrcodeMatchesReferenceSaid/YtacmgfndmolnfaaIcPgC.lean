/-
  The program of layer 17: getFields (made by wip/lab/genicpgc.py).
-/
import Derived.Test.YtacmgfndmolnfaaIcPgB
namespace Go.Proofs.Ytacmgfndmolnfaa
open Go.RowKit
set_option linter.unusedVariables false
set_option linter.unusedSimpArgs false

/-- What getFields carries: the result's block z, the shape s, the field k with its bound at x, the instruction j. -/
structure GFS (w : World) (lo p : Nat) (l : List Nat) (A : Option Addr) (c : Nat) (t : Ip) (regs : Int) (b0 b1 b2 b3 : Bool) (z s k x j : Nat) (v0 v1 v2 v3 v4 : Int) (W : World) : Prop where
  md : Mods (Is p) w W
  ce : CE lo p l A c t W
  z_ : Row W z 30 #[.int .i64 0, .int .i64 0, .int .i64 0, .int .i64 0, .int .i64 0]
  s_ : Row W s 95 #[.bool b0, .bool b1, .bool b2, .bool b3]
  k_ : Row W k 84 (numC p 73 #[.pointer (some ⟨x, 0, none⟩)] 9)
  x_ : Row W x 3 #[.int .i64 regs]
  j_ : Row W j 30 #[.int .i64 v0, .int .i64 v1, .int .i64 v2, .int .i64 v3, .int .i64 v4]
  pw : p < w.heap.size
  wz : w.heap.size ≤ z
  zs : z < s
  sx : s < x
  xk : x < k
  kj : k < j
section
variable {w : World} {lo p : Nat} {l : List Nat} {A : Option Addr} {c : Nat} {t t' : Ip} {regs : Int} {b0 b1 b2 b3 : Bool} {z s k x j : Nat} {v0 v1 v2 v3 v4 : Int} {W W' : World}
theorem GFS.next (h : GFS w lo p l A c t regs b0 b1 b2 b3 z s k x j v0 v1 v2 v3 v4 W) (hm : Mods (Is p) W W') (hc : CE lo p l A c t' W') : GFS w lo p l A c t' regs b0 b1 b2 b3 z s k x j v0 v1 v2 v3 v4 W' := by
  obtain ⟨md, ce, z_, s_, k_, x_, j_, pw, wz, zs, sx, xk, kj⟩ := h
  exact ⟨md.trans hm, hc, z_.mods hm (fun hh => by unfold Is at hh; omega), s_.mods hm (fun hh => by unfold Is at hh; omega), k_.mods hm (fun hh => by unfold Is at hh; omega), x_.mods hm (fun hh => by unfold Is at hh; omega), j_.mods hm (fun hh => by unfold Is at hh; omega), pw, wz, zs, sx, xk, kj⟩
theorem GFS.put (h : GFS w lo p l A c t regs b0 b1 b2 b3 z s k x j v0 v1 v2 v3 v4 W) (i : Nat) (u : Value) {u0 u1 u2 u3 u4 : Int} (e : (#[.int .i64 v0, .int .i64 v1, .int .i64 v2, .int .i64 v3, .int .i64 v4] : Array Value).setIfInBounds i u = #[.int .i64 u0, .int .i64 u1, .int .i64 u2, .int .i64 u3, .int .i64 u4]) :
    GFS w lo p l A c t regs b0 b1 b2 b3 z s k x j u0 u1 u2 u3 u4 (W.setCell ⟨j, i, none⟩ u) := by
  obtain ⟨md, ce, z_, s_, k_, x_, j_, pw, wz, zs, sx, xk, kj⟩ := h
  have hp := j_.put i u
  rw [e] at hp
  have hj : Mods (Is j) W (W.setCell ⟨j, i, none⟩ u) := (Mods.refl _ _).put i u
  exact ⟨md.then hj fun q hq => .inr (by unfold Is at hq; omega), ce.mods hj fun q hq => .inr (by unfold Is at hq; omega),
    z_.far (q := ⟨j, i, none⟩) (by show z ≠ j; omega) u, s_.far (q := ⟨j, i, none⟩) (by show s ≠ j; omega) u, k_.far (q := ⟨j, i, none⟩) (by show k ≠ j; omega) u, x_.far (q := ⟨j, i, none⟩) (by show x ≠ j; omega) u, hp, pw, wz, zs, sx, xk, kj⟩
end

set_option maxRecDepth 100000 in
set_option maxHeartbeats 4000000 in
theorem getfields_any {w : World} {lo p : Nat} {l : List Nat} {A : Option Addr} {c : Nat} {t : Ip} (h : CE lo p l A c t w) (op regs : Int) (hr : 0 ≤ regs ∧ regs ≤ 65535) :
    Calls Try.prog 37 #[.pointer (some ⟨p, 0, none⟩), .int .i64 op, .int .i64 regs] w
      fun e w' => e = .returned (.agg #[.int .i64 op, .int .i64 (dE op regs t).1, .int .i64 (aE op regs t).1, .int .i64 (bE op regs t).1, .int .i64 (iE op regs t).1]) ∧ Mods (Is p) w w' ∧ CE lo p l A c (iE op regs t).2 w' := by
  have hmf : ∀ (fn : Fn) (first cap : Array Value) (w : World), (Instr.makeFunc fn first cap).run Try.prog w = .ok (.func fn first cap) w := fun _ _ _ _ => rfl
  obtain ⟨td, hd⟩ : ∃ y, Hid (dE op regs t = y) := ⟨_, rfl⟩
  obtain ⟨ta, ha⟩ : ∃ y, Hid (aE op regs t = y) := ⟨_, rfl⟩
  obtain ⟨tb, hb⟩ : ∃ y, Hid (bE op regs t = y) := ⟨_, rfl⟩
  obtain ⟨ti, hi⟩ : ∃ y, Hid (iE op regs t = y) := ⟨_, rfl⟩
  rw [hd.out, ha.out, hb.out, hi.out]
  have ha2 : Hid (optE (uA op) regs 9 td.2 = ta) := by show _ = _; rw [← ha.out, ← hd.out]; rfl
  have hb2 : Hid (optE (uB op) regs 9 ta.2 = tb) := by show _ = _; rw [← hb.out, ← ha.out]; rfl
  have hi2 : Hid (immE (uI op) tb.2 = ti) := by
    show _ = _
    rw [← hi.out, ← hb.out, show uI op = (op == 1) by unfold uI; rw [Bool.eq_iff_iff]; simp]
    rfl
  have hd2 : Hid (optE (uD op) regs 9 t = td) := hd
  clear hd ha hb hi
  have hR := Lib.hid hr
  have hlt := h.lt
  have hrow := Row.new w 30 #[.int .i64 0, .int .i64 0, .int .i64 0, .int .i64 0, .int .i64 0]
  have hmd := (Mods.refl (Is p) w).alloc (.cells #[.int .i64 0, .int .i64 0, .int .i64 0, .int .i64 0, .int .i64 0] 30)
  have hce := h.alloc (.cells #[.int .i64 0, .int .i64 0, .int .i64 0, .int .i64 0, .int .i64 0] 30)
  have hzl : w.heap.size < (w.alloc (.cells #[.int .i64 0, .int .i64 0, .int .i64 0, .int .i64 0, .int .i64 0] 30)).heap.size := hrow.lt
  have HZ := Lib.hid hrow
  have HM := Lib.hid hmd
  have HC := Lib.hid hce
  clear hrow hmd hce h hr
  go_enter Try.func37, Try.ntmps37
  go_upto_region 1 with fail
  generalize (w.alloc (.cells #[.int .i64 0, .int .i64 0, .int .i64 0, .int .i64 0, .int .i64 0] 30)) = W0 at *
  generalize hz : w.heap.size = z at *
  have C1 := Lib.hid (of_any op W0)
  unfold shp at C1
  obtain ⟨bD, hD⟩ : ∃ y, Hid (uD op = y) := ⟨_, rfl⟩
  obtain ⟨bA, hA⟩ : ∃ y, Hid (uA op = y) := ⟨_, rfl⟩
  obtain ⟨bB, hB⟩ : ∃ y, Hid (uB op = y) := ⟨_, rfl⟩
  obtain ⟨bI, hI⟩ : ∃ y, Hid (uI op = y) := ⟨_, rfl⟩
  obtain ⟨bO, hO⟩ : ∃ y, Hid (uO op = y) := ⟨_, rfl⟩
  rw [hD.out, hA.out, hB.out, hI.out, hO.out] at C1
  rw [hD.out] at hd2
  rw [hA.out] at ha2
  rw [hB.out] at hb2
  rw [hI.out] at hi2
  clear hD hA hB hI hO
  go_wp2_with fail
  refine C1.out.mono ?_
  rintro e W1 ⟨rfl, hb⟩
  have HZ1 := Lib.hid (HZ.out.below hb HZ.out.lt)
  have HM1 := Lib.hid (HM.out.trans (Mods.of_below hb))
  have HC1 := Lib.hid (HC.out.mods (S := No) (Mods.of_below hb) fun _ hk => hk.elim)
  have hs1 := hb.size
  clear hb C1 HZ HM HC
  go_upto_region 2 with fail
  have hrow := Row.new W1 95 #[.bool bD, .bool bA, .bool bB, .bool bI]
  have HS2 := Lib.hid hrow
  have HZ2 := Lib.hid (HZ1.out.alloc (.cells #[.bool bD, .bool bA, .bool bB, .bool bI] 95))
  have HM2 := Lib.hid (HM1.out.alloc (.cells #[.bool bD, .bool bA, .bool bB, .bool bI] 95))
  have HC2 := Lib.hid (HC1.out.alloc (.cells #[.bool bD, .bool bA, .bool bB, .bool bI] 95))
  have hzs : z < W1.heap.size := by omega
  have hs2 := hrow.lt
  clear hrow HZ1 HM1 HC1
  generalize (W1.alloc (.cells #[.bool bD, .bool bA, .bool bB, .bool bI] 95)) = W2 at *
  generalize W1.heap.size = s at *
  go_wp2_with fail
  refine (below_any p regs 9 W2).mono ?_
  rintro e W3 ⟨x, rfl, hx2, hx, hb⟩
  have HS3 := Lib.hid (HS2.out.below hb HS2.out.lt)
  have HZ3 := Lib.hid (HZ2.out.below hb HZ2.out.lt)
  have HM3 := Lib.hid (HM2.out.trans (Mods.of_below hb))
  have HC3 := Lib.hid (HC2.out.mods (S := No) (Mods.of_below hb) fun _ hk => hk.elim)
  have HX3 := Lib.hid hx
  have hx3 := hx.lt
  clear hb hx HS2 HZ2 HM2 HC2
  unfold numC
  go_upto_region 3 with fail
  have hrow := Row.new W3 84 #[.func (.func 72) #[.pointer (some ⟨p, 0, none⟩)] #[], .func (.func 34) #[.pointer (some ⟨p, 0, none⟩)] #[], .func (.func 73) #[] #[.pointer (some ⟨x, 0, none⟩)], .int .i64 9]
  have HK4 := Lib.hid hrow
  have HS4 := Lib.hid (HS3.out.alloc (.cells #[.func (.func 72) #[.pointer (some ⟨p, 0, none⟩)] #[], .func (.func 34) #[.pointer (some ⟨p, 0, none⟩)] #[], .func (.func 73) #[] #[.pointer (some ⟨x, 0, none⟩)], .int .i64 9] 84))
  have HZ4 := Lib.hid (HZ3.out.alloc (.cells #[.func (.func 72) #[.pointer (some ⟨p, 0, none⟩)] #[], .func (.func 34) #[.pointer (some ⟨p, 0, none⟩)] #[], .func (.func 73) #[] #[.pointer (some ⟨x, 0, none⟩)], .int .i64 9] 84))
  have HM4 := Lib.hid (HM3.out.alloc (.cells #[.func (.func 72) #[.pointer (some ⟨p, 0, none⟩)] #[], .func (.func 34) #[.pointer (some ⟨p, 0, none⟩)] #[], .func (.func 73) #[] #[.pointer (some ⟨x, 0, none⟩)], .int .i64 9] 84))
  have HC4 := Lib.hid (HC3.out.alloc (.cells #[.func (.func 72) #[.pointer (some ⟨p, 0, none⟩)] #[], .func (.func 34) #[.pointer (some ⟨p, 0, none⟩)] #[], .func (.func 73) #[] #[.pointer (some ⟨x, 0, none⟩)], .int .i64 9] 84))
  have HX4 := Lib.hid (HX3.out.alloc (.cells #[.func (.func 72) #[.pointer (some ⟨p, 0, none⟩)] #[], .func (.func 34) #[.pointer (some ⟨p, 0, none⟩)] #[], .func (.func 73) #[] #[.pointer (some ⟨x, 0, none⟩)], .int .i64 9] 84))
  have hs4 := hrow.lt
  clear hrow HS3 HZ3 HM3 HC3 HX3
  generalize (W3.alloc (.cells #[.func (.func 72) #[.pointer (some ⟨p, 0, none⟩)] #[], .func (.func 34) #[.pointer (some ⟨p, 0, none⟩)] #[], .func (.func 73) #[] #[.pointer (some ⟨x, 0, none⟩)], .int .i64 9] 84)) = W4 at *
  generalize W3.heap.size = k at *
  go_upto_region 4 with fail
  have hrow := Row.new W4 30 #[.int .i64 op, .int .i64 0, .int .i64 0, .int .i64 0, .int .i64 0]
  have HG : Hid (GFS w lo p l A c t regs bD bA bB bI z s k x W4.heap.size op 0 0 0 0 (W4.alloc (.cells #[.int .i64 op, .int .i64 0, .int .i64 0, .int .i64 0, .int .i64 0] 30))) :=
    ⟨HM4.out.alloc _, HC4.out.alloc _, HZ4.out.alloc _, HS4.out.alloc _, HK4.out.alloc _, HX4.out.alloc _, hrow, by omega, by omega, by omega, by omega, by omega, by omega⟩
  clear hrow HS4 HZ4 HM4 HC4 HX4 HK4
  generalize (W4.alloc (.cells #[.int .i64 op, .int .i64 0, .int .i64 0, .int .i64 0, .int .i64 0] 30)) = W5 at *
  generalize W4.heap.size = j at *
  have C2 := Lib.hid (fld_any HG.out.ce bD x regs 9 HG.out.x_ (by have := HG.out.pw; have := HG.out.wz; have := HG.out.zs; have := HG.out.sx; omega) (by decide) (by have := hR.out; omega))
  rw [hd2.out] at C2
  have s0 := HG.out.s_.cell 0; have s1 := HG.out.s_.cell 1; have s2 := HG.out.s_.cell 2; have s3 := HG.out.s_.cell 3
  simp only [List.getElem?_toArray, List.getElem?_cons_zero, List.getElem?_cons_succ] at s0 s1 s2 s3
  have hk := HG.out.k_
  unfold numC at hk
  have k0 := hk.cell 0; have k1 := hk.cell 1; have k2 := hk.cell 2; have k3 := hk.cell 3
  simp only [List.getElem?_toArray, List.getElem?_cons_zero, List.getElem?_cons_succ] at k0 k1 k2 k3
  clear hk
  go_wp2_with fail
  refine C2.out.mono ?_
  rintro e W5r ⟨rfl, hm, hc⟩
  have HGr := Lib.hid (HG.out.next hm hc)
  clear hm hc C2 s0 s1 s2 s3 k0 k1 k2 k3 HG
  have j0 := HGr.out.j_.cell 0; have j1 := HGr.out.j_.cell 1; have j2 := HGr.out.j_.cell 2; have j3 := HGr.out.j_.cell 3; have j4 := HGr.out.j_.cell 4
  have jf0 := HGr.out.j_.frozen 0; have jf1 := HGr.out.j_.frozen 1; have jf2 := HGr.out.j_.frozen 2; have jf3 := HGr.out.j_.frozen 3; have jf4 := HGr.out.j_.frozen 4
  simp only [List.getElem?_toArray, List.getElem?_cons_zero, List.getElem?_cons_succ] at j0 j1 j2 j3 j4
  go_upto_region 5 with fail
  clear j0 j1 j2 j3 j4 jf0 jf1 jf2 jf3 jf4
  have HG : Hid (GFS w lo p l A c td.2 regs bD bA bB bI z s k x j op td.1 0 0 0 (W5r.setCell ⟨j, 1, none⟩ (.int .i64 td.1))) := HGr.out.put 1 _ rfl
  generalize (W5r.setCell ⟨j, 1, none⟩ (.int .i64 td.1)) = W6 at *
  clear HGr
  have C2 := Lib.hid (fld_any HG.out.ce bA x regs 9 HG.out.x_ (by have := HG.out.pw; have := HG.out.wz; have := HG.out.zs; have := HG.out.sx; omega) (by decide) (by have := hR.out; omega))
  rw [ha2.out] at C2
  have s0 := HG.out.s_.cell 0; have s1 := HG.out.s_.cell 1; have s2 := HG.out.s_.cell 2; have s3 := HG.out.s_.cell 3
  simp only [List.getElem?_toArray, List.getElem?_cons_zero, List.getElem?_cons_succ] at s0 s1 s2 s3
  have hk := HG.out.k_
  unfold numC at hk
  have k0 := hk.cell 0; have k1 := hk.cell 1; have k2 := hk.cell 2; have k3 := hk.cell 3
  simp only [List.getElem?_toArray, List.getElem?_cons_zero, List.getElem?_cons_succ] at k0 k1 k2 k3
  clear hk
  go_wp2_with fail
  refine C2.out.mono ?_
  rintro e W6r ⟨rfl, hm, hc⟩
  have HGr := Lib.hid (HG.out.next hm hc)
  clear hm hc C2 s0 s1 s2 s3 k0 k1 k2 k3 HG
  have j0 := HGr.out.j_.cell 0; have j1 := HGr.out.j_.cell 1; have j2 := HGr.out.j_.cell 2; have j3 := HGr.out.j_.cell 3; have j4 := HGr.out.j_.cell 4
  have jf0 := HGr.out.j_.frozen 0; have jf1 := HGr.out.j_.frozen 1; have jf2 := HGr.out.j_.frozen 2; have jf3 := HGr.out.j_.frozen 3; have jf4 := HGr.out.j_.frozen 4
  simp only [List.getElem?_toArray, List.getElem?_cons_zero, List.getElem?_cons_succ] at j0 j1 j2 j3 j4
  go_upto_region 6 with fail
  clear j0 j1 j2 j3 j4 jf0 jf1 jf2 jf3 jf4
  have HG : Hid (GFS w lo p l A c ta.2 regs bD bA bB bI z s k x j op td.1 ta.1 0 0 (W6r.setCell ⟨j, 2, none⟩ (.int .i64 ta.1))) := HGr.out.put 2 _ rfl
  generalize (W6r.setCell ⟨j, 2, none⟩ (.int .i64 ta.1)) = W7 at *
  clear HGr
  have C2 := Lib.hid (fld_any HG.out.ce bB x regs 9 HG.out.x_ (by have := HG.out.pw; have := HG.out.wz; have := HG.out.zs; have := HG.out.sx; omega) (by decide) (by have := hR.out; omega))
  rw [hb2.out] at C2
  have s0 := HG.out.s_.cell 0; have s1 := HG.out.s_.cell 1; have s2 := HG.out.s_.cell 2; have s3 := HG.out.s_.cell 3
  simp only [List.getElem?_toArray, List.getElem?_cons_zero, List.getElem?_cons_succ] at s0 s1 s2 s3
  have hk := HG.out.k_
  unfold numC at hk
  have k0 := hk.cell 0; have k1 := hk.cell 1; have k2 := hk.cell 2; have k3 := hk.cell 3
  simp only [List.getElem?_toArray, List.getElem?_cons_zero, List.getElem?_cons_succ] at k0 k1 k2 k3
  clear hk
  go_wp2_with fail
  refine C2.out.mono ?_
  rintro e W7r ⟨rfl, hm, hc⟩
  have HGr := Lib.hid (HG.out.next hm hc)
  clear hm hc C2 s0 s1 s2 s3 k0 k1 k2 k3 HG
  have j0 := HGr.out.j_.cell 0; have j1 := HGr.out.j_.cell 1; have j2 := HGr.out.j_.cell 2; have j3 := HGr.out.j_.cell 3; have j4 := HGr.out.j_.cell 4
  have jf0 := HGr.out.j_.frozen 0; have jf1 := HGr.out.j_.frozen 1; have jf2 := HGr.out.j_.frozen 2; have jf3 := HGr.out.j_.frozen 3; have jf4 := HGr.out.j_.frozen 4
  simp only [List.getElem?_toArray, List.getElem?_cons_zero, List.getElem?_cons_succ] at j0 j1 j2 j3 j4
  go_upto_region 7 with fail
  clear j0 j1 j2 j3 j4 jf0 jf1 jf2 jf3 jf4
  have HG : Hid (GFS w lo p l A c tb.2 regs bD bA bB bI z s k x j op td.1 ta.1 tb.1 0 (W7r.setCell ⟨j, 3, none⟩ (.int .i64 tb.1))) := HGr.out.put 3 _ rfl
  generalize (W7r.setCell ⟨j, 3, none⟩ (.int .i64 tb.1)) = W8 at *
  clear HGr
  have C2 := Lib.hid (imm_any HG.out.ce bI)
  rw [hi2.out] at C2
  have s0 := HG.out.s_.cell 0; have s1 := HG.out.s_.cell 1; have s2 := HG.out.s_.cell 2; have s3 := HG.out.s_.cell 3
  simp only [List.getElem?_toArray, List.getElem?_cons_zero, List.getElem?_cons_succ] at s0 s1 s2 s3
  go_wp2_with fail
  refine C2.out.mono ?_
  rintro e W8r ⟨rfl, hm, hc⟩
  have HGr := Lib.hid (HG.out.next hm hc)
  clear hm hc C2 s0 s1 s2 s3  HG
  have j0 := HGr.out.j_.cell 0; have j1 := HGr.out.j_.cell 1; have j2 := HGr.out.j_.cell 2; have j3 := HGr.out.j_.cell 3; have j4 := HGr.out.j_.cell 4
  have jf0 := HGr.out.j_.frozen 0; have jf1 := HGr.out.j_.frozen 1; have jf2 := HGr.out.j_.frozen 2; have jf3 := HGr.out.j_.frozen 3; have jf4 := HGr.out.j_.frozen 4
  simp only [List.getElem?_toArray, List.getElem?_cons_zero, List.getElem?_cons_succ] at j0 j1 j2 j3 j4
  go_upto_region 8 with fail
  clear j0 j1 j2 j3 j4 jf0 jf1 jf2 jf3 jf4
  have HG : Hid (GFS w lo p l A c ti.2 regs bD bA bB bI z s k x j op td.1 ta.1 tb.1 ti.1 (W8r.setCell ⟨j, 4, none⟩ (.int .i64 ti.1))) := HGr.out.put 4 _ rfl
  generalize (W8r.setCell ⟨j, 4, none⟩ (.int .i64 ti.1)) = W9 at *
  clear HGr
  have j0 := HG.out.j_.cell 0; have j1 := HG.out.j_.cell 1; have j2 := HG.out.j_.cell 2; have j3 := HG.out.j_.cell 3; have j4 := HG.out.j_.cell 4
  have jf0 := HG.out.j_.frozen 0; have jf1 := HG.out.j_.frozen 1; have jf2 := HG.out.j_.frozen 2; have jf3 := HG.out.j_.frozen 3; have jf4 := HG.out.j_.frozen 4
  simp only [List.getElem?_toArray, List.getElem?_cons_zero, List.getElem?_cons_succ] at j0 j1 j2 j3 j4
  have z0 := HG.out.z_.cell 0; have z1 := HG.out.z_.cell 1; have z2 := HG.out.z_.cell 2; have z3 := HG.out.z_.cell 3; have z4 := HG.out.z_.cell 4
  have zf0 := HG.out.z_.frozen 0; have zf1 := HG.out.z_.frozen 1; have zf2 := HG.out.z_.frozen 2; have zf3 := HG.out.z_.frozen 3; have zf4 := HG.out.z_.frozen 4
  simp only [List.getElem?_toArray, List.getElem?_cons_zero, List.getElem?_cons_succ] at z0 z1 z2 z3 z4
  go_wp2
  (try simp only [Exit.inBlock, Exit.then])
  have hmz := mods5i W9 z (.int .i64 op) (.int .i64 td.1) (.int .i64 ta.1) (.int .i64 tb.1) (.int .i64 ti.1)
  refine bodyPost_ret (v := .agg #[.int .i64 op, .int .i64 td.1, .int .i64 ta.1, .int .i64 tb.1, .int .i64 ti.1]) ?_ rfl ⟨rfl, HG.out.md.then hmz fun q hq => .inr (by have := HG.out.wz; unfold Is at hq; omega), HG.out.ce.mods hmz fun q hq => .inr (by have := HG.out.wz; have := HG.out.pw; unfold Is at hq; omega)⟩
  exact results_cell_row rfl _ _ z 30 #[.int .i64 op, .int .i64 td.1, .int .i64 ta.1, .int .i64 tb.1, .int .i64 ti.1] (0, 0) _ rfl (HG.out.z_.put5i _ _ _ _ _) Try.underlying30 rfl (by kernel_rfl)

end Go.Proofs.Ytacmgfndmolnfaa
