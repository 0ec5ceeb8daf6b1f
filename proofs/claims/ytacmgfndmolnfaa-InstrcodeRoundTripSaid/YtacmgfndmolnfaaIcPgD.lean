/-
  The program of layer 17: getMove (made by wip/lab/genicpgd.py).
-/
import Derived.Test.YtacmgfndmolnfaaIcPgC
namespace Go.Proofs.Ytacmgfndmolnfaa
open Go.RowKit
set_option linter.unusedVariables false
set_option linter.unusedSimpArgs false

/-- What getMove carries: the result's block z, the field k with its bounds at x and y, the instruction j. -/
structure GMS (w : World) (lo p : Nat) (l : List Nat) (A : Option Addr) (c : Nat) (t : Ip) (r n : Int) (z k x y j : Nat) (v5 v6 : Int) (W : World) : Prop where
  md : Mods (Is p) w W
  ce : CE lo p l A c t W
  z_ : Row W z 34 #[.int .i64 0, .int .i64 0, .int .i64 0, .int .i64 0, .int .i64 0, .int .i64 0, .int .i64 0]
  k_ : Row W k 84 (numC p 82 #[.pointer (some ⟨x, 0, none⟩), .pointer (some ⟨y, 0, none⟩)] 10)
  x_ : Row W x 3 #[.int .i64 r]
  y_ : Row W y 3 #[.int .i64 n]
  j_ : Row W j 34 #[.int .i64 18, .int .i64 0, .int .i64 0, .int .i64 0, .int .i64 0, .int .i64 v5, .int .i64 v6]
  pw : p < w.heap.size
  wz : w.heap.size ≤ z
  zx : z < x
  zy : z < y
  xk : x < k
  yk : y < k
  kj : k < j
section
variable {w : World} {lo p : Nat} {l : List Nat} {A : Option Addr} {c : Nat} {t t' : Ip} {r n : Int} {z k x y j : Nat} {v5 v6 : Int} {W W' : World}
theorem GMS.next (h : GMS w lo p l A c t r n z k x y j v5 v6 W) (hm : Mods (Is p) W W') (hc : CE lo p l A c t' W') : GMS w lo p l A c t' r n z k x y j v5 v6 W' := by
  obtain ⟨md, ce, z_, k_, x_, y_, j_, pw, wz, zx, zy, xk, yk, kj⟩ := h
  exact ⟨md.trans hm, hc, z_.mods hm (fun hh => by unfold Is at hh; omega), k_.mods hm (fun hh => by unfold Is at hh; omega), x_.mods hm (fun hh => by unfold Is at hh; omega), y_.mods hm (fun hh => by unfold Is at hh; omega), j_.mods hm (fun hh => by unfold Is at hh; omega), pw, wz, zx, zy, xk, yk, kj⟩
theorem GMS.put (h : GMS w lo p l A c t r n z k x y j v5 v6 W) (i : Nat) (u : Value) {u5 u6 : Int} (e : (#[.int .i64 18, .int .i64 0, .int .i64 0, .int .i64 0, .int .i64 0, .int .i64 v5, .int .i64 v6] : Array Value).setIfInBounds i u = #[.int .i64 18, .int .i64 0, .int .i64 0, .int .i64 0, .int .i64 0, .int .i64 u5, .int .i64 u6]) : GMS w lo p l A c t r n z k x y j u5 u6 (W.setCell ⟨j, i, none⟩ u) := by
  obtain ⟨md, ce, z_, k_, x_, y_, j_, pw, wz, zx, zy, xk, yk, kj⟩ := h
  have hp := j_.put i u
  rw [e] at hp
  have hj : Mods (Is j) W (W.setCell ⟨j, i, none⟩ u) := (Mods.refl _ _).put i u
  exact ⟨md.then hj fun q hq => .inr (by unfold Is at hq; omega), ce.mods hj fun q hq => .inr (by unfold Is at hq; omega),
    z_.far (q := ⟨j, i, none⟩) (by show z ≠ j; omega) u, k_.far (q := ⟨j, i, none⟩) (by show k ≠ j; omega) u, x_.far (q := ⟨j, i, none⟩) (by show x ≠ j; omega) u, y_.far (q := ⟨j, i, none⟩) (by show y ≠ j; omega) u, hp, pw, wz, zx, zy, xk, yk, kj⟩
end

set_option maxRecDepth 100000 in
set_option maxHeartbeats 4000000 in
theorem getmove_any {w : World} {lo p : Nat} {l : List Nat} {A : Option Addr} {c : Nat} {t : Ip} (h : CE lo p l A c t w) (r n : Int) (hr : r ≤ 65535) (hn : n ≤ 65535) {tx ty : Int × Ip} (hx : locE r n t = tx) (hy : locE r n tx.2 = ty) :
    Calls Try.prog 40 #[.pointer (some ⟨p, 0, none⟩), .int .i64 r, .int .i64 n] w
      fun e w' => e = .returned (.agg #[.int .i64 18, .int .i64 0, .int .i64 0, .int .i64 0, .int .i64 0, .int .i64 tx.1, .int .i64 ty.1]) ∧ Mods (Is p) w w' ∧ CE lo p l A c (twoE true tx.1 ty.1 ty.2) w' := by
  have hmf : ∀ (fn : Fn) (first cap : Array Value) (w : World), (Instr.makeFunc fn first cap).run Try.prog w = .ok (.func fn first cap) w := fun _ _ _ _ => rfl
  have rx : 0 ≤ tx.1 ∧ tx.1 < 4611686018427387904 := by rw [← hx]; exact locE_rng
  have ry : 0 ≤ ty.1 ∧ ty.1 < 4611686018427387904 := by rw [← hy]; exact locE_rng
  obtain ⟨vx, sx⟩ := tx
  obtain ⟨vy, sy⟩ := ty
  dsimp only at rx ry hy ⊢
  have HX := Lib.hid hx
  have HY := Lib.hid hy
  have HR := Lib.hid hr
  have HN := Lib.hid hn
  have hlt := h.lt
  have hrow := Row.new w 34 #[.int .i64 0, .int .i64 0, .int .i64 0, .int .i64 0, .int .i64 0, .int .i64 0, .int .i64 0]
  have hmd := (Mods.refl (Is p) w).alloc (.cells #[.int .i64 0, .int .i64 0, .int .i64 0, .int .i64 0, .int .i64 0, .int .i64 0, .int .i64 0] 34)
  have hce := h.alloc (.cells #[.int .i64 0, .int .i64 0, .int .i64 0, .int .i64 0, .int .i64 0, .int .i64 0, .int .i64 0] 34)
  have hzl : w.heap.size < (w.alloc (.cells #[.int .i64 0, .int .i64 0, .int .i64 0, .int .i64 0, .int .i64 0, .int .i64 0, .int .i64 0] 34)).heap.size := hrow.lt
  have HZ := Lib.hid hrow
  have HM := Lib.hid hmd
  have HC := Lib.hid hce
  clear hrow hmd hce h hr hn hx hy
  go_enter Try.func40, Try.ntmps40
  go_upto_region 1 with fail
  generalize (w.alloc (.cells #[.int .i64 0, .int .i64 0, .int .i64 0, .int .i64 0, .int .i64 0, .int .i64 0, .int .i64 0] 34)) = W0 at *
  generalize hz : w.heap.size = z at *
  go_wp2_with fail
  refine (within_any p r n W0).mono ?_
  rintro e W3 ⟨x, y, rfl, hx2, hy2, hx, hy, hb⟩
  have HZ3 := Lib.hid (HZ.out.below hb HZ.out.lt)
  have HM3 := Lib.hid (HM.out.trans (Mods.of_below hb))
  have HC3 := Lib.hid (HC.out.mods (S := No) (Mods.of_below hb) fun _ hk => hk.elim)
  have HX3 := Lib.hid hx
  have HY3 := Lib.hid hy
  have hx3 := hx.lt
  have hy3 := hy.lt
  clear hb hx hy HZ HM HC
  unfold numC
  go_upto_region 2 with fail
  have hrow := Row.new W3 84 #[.func (.func 72) #[.pointer (some ⟨p, 0, none⟩)] #[], .func (.func 34) #[.pointer (some ⟨p, 0, none⟩)] #[], .func (.func 82) #[] #[.pointer (some ⟨x, 0, none⟩), .pointer (some ⟨y, 0, none⟩)], .int .i64 10]
  have HK4 := Lib.hid hrow
  have HZ4 := Lib.hid (HZ3.out.alloc (.cells #[.func (.func 72) #[.pointer (some ⟨p, 0, none⟩)] #[], .func (.func 34) #[.pointer (some ⟨p, 0, none⟩)] #[], .func (.func 82) #[] #[.pointer (some ⟨x, 0, none⟩), .pointer (some ⟨y, 0, none⟩)], .int .i64 10] 84))
  have HM4 := Lib.hid (HM3.out.alloc (.cells #[.func (.func 72) #[.pointer (some ⟨p, 0, none⟩)] #[], .func (.func 34) #[.pointer (some ⟨p, 0, none⟩)] #[], .func (.func 82) #[] #[.pointer (some ⟨x, 0, none⟩), .pointer (some ⟨y, 0, none⟩)], .int .i64 10] 84))
  have HC4 := Lib.hid (HC3.out.alloc (.cells #[.func (.func 72) #[.pointer (some ⟨p, 0, none⟩)] #[], .func (.func 34) #[.pointer (some ⟨p, 0, none⟩)] #[], .func (.func 82) #[] #[.pointer (some ⟨x, 0, none⟩), .pointer (some ⟨y, 0, none⟩)], .int .i64 10] 84))
  have HX4 := Lib.hid (HX3.out.alloc (.cells #[.func (.func 72) #[.pointer (some ⟨p, 0, none⟩)] #[], .func (.func 34) #[.pointer (some ⟨p, 0, none⟩)] #[], .func (.func 82) #[] #[.pointer (some ⟨x, 0, none⟩), .pointer (some ⟨y, 0, none⟩)], .int .i64 10] 84))
  have HY4 := Lib.hid (HY3.out.alloc (.cells #[.func (.func 72) #[.pointer (some ⟨p, 0, none⟩)] #[], .func (.func 34) #[.pointer (some ⟨p, 0, none⟩)] #[], .func (.func 82) #[] #[.pointer (some ⟨x, 0, none⟩), .pointer (some ⟨y, 0, none⟩)], .int .i64 10] 84))
  have hs4 := hrow.lt
  clear hrow HZ3 HM3 HC3 HX3 HY3
  generalize (W3.alloc (.cells #[.func (.func 72) #[.pointer (some ⟨p, 0, none⟩)] #[], .func (.func 34) #[.pointer (some ⟨p, 0, none⟩)] #[], .func (.func 82) #[] #[.pointer (some ⟨x, 0, none⟩), .pointer (some ⟨y, 0, none⟩)], .int .i64 10] 84)) = W4 at *
  generalize W3.heap.size = k at *
  go_upto_region 3 with fail
  have hrow := Row.new W4 34 #[.int .i64 18, .int .i64 0, .int .i64 0, .int .i64 0, .int .i64 0, .int .i64 0, .int .i64 0]
  have HG : Hid (GMS w lo p l A c t r n z k x y W4.heap.size 0 0 (W4.alloc (.cells #[.int .i64 18, .int .i64 0, .int .i64 0, .int .i64 0, .int .i64 0, .int .i64 0, .int .i64 0] 34))) :=
    ⟨HM4.out.alloc _, HC4.out.alloc _, HZ4.out.alloc _, HK4.out.alloc _, HX4.out.alloc _, HY4.out.alloc _, hrow, by omega, by omega, by omega, by omega, by omega, by omega, by omega⟩
  clear hrow HZ4 HM4 HC4 HX4 HK4 HY4
  generalize (W4.alloc (.cells #[.int .i64 18, .int .i64 0, .int .i64 0, .int .i64 0, .int .i64 0, .int .i64 0, .int .i64 0] 34)) = W5 at *
  generalize W4.heap.size = j at *
  have C2 := Lib.hid (place_any HG.out.ce x y r n HG.out.x_ HG.out.y_ (by have := HG.out.pw; have := HG.out.wz; have := HG.out.zx; omega) (by have := HG.out.pw; have := HG.out.wz; have := HG.out.zy; omega) HR.out HN.out)
  rw [HX.out] at C2
  dsimp only at C2
  have hk := HG.out.k_
  unfold numC at hk
  have k0 := hk.cell 0; have k1 := hk.cell 1; have k2 := hk.cell 2; have k3 := hk.cell 3
  simp only [List.getElem?_toArray, List.getElem?_cons_zero, List.getElem?_cons_succ] at k0 k1 k2 k3
  clear hk
  go_wp2_with fail
  refine C2.out.mono ?_
  rintro e W5r ⟨rfl, hm, hc⟩
  have HGr := Lib.hid (HG.out.next hm hc)
  clear hm hc C2 k0 k1 k2 k3 HG
  have j0 := HGr.out.j_.cell 0; have j1 := HGr.out.j_.cell 1; have j2 := HGr.out.j_.cell 2; have j3 := HGr.out.j_.cell 3; have j4 := HGr.out.j_.cell 4; have j5 := HGr.out.j_.cell 5; have j6 := HGr.out.j_.cell 6
  have jf0 := HGr.out.j_.frozen 0; have jf1 := HGr.out.j_.frozen 1; have jf2 := HGr.out.j_.frozen 2; have jf3 := HGr.out.j_.frozen 3; have jf4 := HGr.out.j_.frozen 4; have jf5 := HGr.out.j_.frozen 5; have jf6 := HGr.out.j_.frozen 6
  simp only [List.getElem?_toArray, List.getElem?_cons_zero, List.getElem?_cons_succ] at j0 j1 j2 j3 j4 j5 j6
  go_upto_region 4 with fail
  clear j0 j1 j2 j3 j4 j5 j6 jf0 jf1 jf2 jf3 jf4 jf5 jf6
  have HG : Hid (GMS w lo p l A c sx r n z k x y j vx 0 (W5r.setCell ⟨j, 5, none⟩ (.int .i64 vx))) := HGr.out.put 5 _ rfl
  generalize (W5r.setCell ⟨j, 5, none⟩ (.int .i64 vx)) = W6 at *
  clear HGr
  have C2 := Lib.hid (place_any HG.out.ce x y r n HG.out.x_ HG.out.y_ (by have := HG.out.pw; have := HG.out.wz; have := HG.out.zx; omega) (by have := HG.out.pw; have := HG.out.wz; have := HG.out.zy; omega) HR.out HN.out)
  rw [HY.out] at C2
  dsimp only at C2
  have hk := HG.out.k_
  unfold numC at hk
  have k0 := hk.cell 0; have k1 := hk.cell 1; have k2 := hk.cell 2; have k3 := hk.cell 3
  simp only [List.getElem?_toArray, List.getElem?_cons_zero, List.getElem?_cons_succ] at k0 k1 k2 k3
  clear hk
  go_wp2_with fail
  refine C2.out.mono ?_
  rintro e W6r ⟨rfl, hm, hc⟩
  have HGr := Lib.hid (HG.out.next hm hc)
  clear hm hc C2 k0 k1 k2 k3 HG
  have j0 := HGr.out.j_.cell 0; have j1 := HGr.out.j_.cell 1; have j2 := HGr.out.j_.cell 2; have j3 := HGr.out.j_.cell 3; have j4 := HGr.out.j_.cell 4; have j5 := HGr.out.j_.cell 5; have j6 := HGr.out.j_.cell 6
  have jf0 := HGr.out.j_.frozen 0; have jf1 := HGr.out.j_.frozen 1; have jf2 := HGr.out.j_.frozen 2; have jf3 := HGr.out.j_.frozen 3; have jf4 := HGr.out.j_.frozen 4; have jf5 := HGr.out.j_.frozen 5; have jf6 := HGr.out.j_.frozen 6
  simp only [List.getElem?_toArray, List.getElem?_cons_zero, List.getElem?_cons_succ] at j0 j1 j2 j3 j4 j5 j6
  go_upto_region 5 with fail
  clear j0 j1 j2 j3 j4 j5 j6 jf0 jf1 jf2 jf3 jf4 jf5 jf6
  have HG : Hid (GMS w lo p l A c sy r n z k x y j vx vy (W6r.setCell ⟨j, 6, none⟩ (.int .i64 vy))) := HGr.out.put 6 _ rfl
  generalize (W6r.setCell ⟨j, 6, none⟩ (.int .i64 vy)) = W7 at *
  clear HGr
  have hj5 := HG.out.j_.cell 5
  have hj6 := HG.out.j_.cell 6
  simp only [List.getElem?_toArray, List.getElem?_cons_zero, List.getElem?_cons_succ] at hj5 hj6
  by_cases h1 : vx % 2 = 1
  · have D1 : Hid (decide (vx % 2 = 1) = true) := decide_eq_true h1
    by_cases h2 : vy % 2 = 1
    · have D2 : Hid (decide (vy % 2 = 1) = true) := decide_eq_true h2
      have HT : Hid (twoE true vx vy sy = failT 10 sy) := by
        show _ = _
        unfold twoE failT
        by_cases h0 : sy.err = 0
        · rw [if_pos ⟨rfl, h0, h1, h2⟩, if_pos h0]
        · rw [if_neg fun hh => h0 hh.2.1, if_neg h0]
      clear h1 h2
      have C3 := Lib.hid (locslot_any vx true W7 rx.1 (by omega) D1.out)
      have C4 := Lib.hid (locslot_any vy true W7 ry.1 (by omega) D2.out)
      have C5 := Lib.hid (fail_ce HG.out.ce 10 (by decide))
      go_wp2_with fail
      refine C3.out.mono ?_
      rintro e W8 ⟨rfl, rfl⟩
      go_wp2_with fail
      refine C4.out.mono ?_
      rintro e W8 ⟨rfl, rfl⟩
      go_wp2_with fail
      refine C5.out.mono ?_
      rintro e W8 ⟨rfl, hm, hc⟩
      have HGr := Lib.hid (HG.out.next hm hc)
      clear hm hc HG hj5 hj6 C3 C4 C5
      have HG := HGr
      clear HGr
      have j0 := HG.out.j_.cell 0; have j1 := HG.out.j_.cell 1; have j2 := HG.out.j_.cell 2; have j3 := HG.out.j_.cell 3; have j4 := HG.out.j_.cell 4; have j5 := HG.out.j_.cell 5; have j6 := HG.out.j_.cell 6
      have jf0 := HG.out.j_.frozen 0; have jf1 := HG.out.j_.frozen 1; have jf2 := HG.out.j_.frozen 2; have jf3 := HG.out.j_.frozen 3; have jf4 := HG.out.j_.frozen 4; have jf5 := HG.out.j_.frozen 5; have jf6 := HG.out.j_.frozen 6
      simp only [List.getElem?_toArray, List.getElem?_cons_zero, List.getElem?_cons_succ] at j0 j1 j2 j3 j4 j5 j6
      have z0 := HG.out.z_.cell 0; have z1 := HG.out.z_.cell 1; have z2 := HG.out.z_.cell 2; have z3 := HG.out.z_.cell 3; have z4 := HG.out.z_.cell 4; have z5 := HG.out.z_.cell 5; have z6 := HG.out.z_.cell 6
      have zf0 := HG.out.z_.frozen 0; have zf1 := HG.out.z_.frozen 1; have zf2 := HG.out.z_.frozen 2; have zf3 := HG.out.z_.frozen 3; have zf4 := HG.out.z_.frozen 4; have zf5 := HG.out.z_.frozen 5; have zf6 := HG.out.z_.frozen 6
      simp only [List.getElem?_toArray, List.getElem?_cons_zero, List.getElem?_cons_succ] at z0 z1 z2 z3 z4 z5 z6
      go_wp2
      (try simp only [Exit.inBlock, Exit.then])
      have hmz := mods7i W8 z (.int .i64 18) (.int .i64 0) (.int .i64 0) (.int .i64 0) (.int .i64 0) (.int .i64 vx) (.int .i64 vy)
      refine bodyPost_ret (v := .agg #[.int .i64 18, .int .i64 0, .int .i64 0, .int .i64 0, .int .i64 0, .int .i64 vx, .int .i64 vy]) ?_ rfl ⟨rfl, HG.out.md.then hmz fun q hq => .inr (by have := HG.out.wz; unfold Is at hq; omega), by rw [HT.out]; exact HG.out.ce.mods hmz fun q hq => .inr (by have := HG.out.wz; have := HG.out.pw; unfold Is at hq; omega)⟩
      exact results_cell_row rfl _ _ z 34 #[.int .i64 18, .int .i64 0, .int .i64 0, .int .i64 0, .int .i64 0, .int .i64 vx, .int .i64 vy] (0, 0) _ rfl (HG.out.z_.put7i _ _ _ _ _ _ _) Try.underlying34 rfl (by kernel_rfl)
    · have D2 : Hid (decide (vy % 2 = 1) = false) := decide_eq_false h2
      have HT : Hid (twoE true vx vy sy = sy) := if_neg fun hh => h2 hh.2.2.2
      clear h1 h2
      have C3 := Lib.hid (locslot_any vx true W7 rx.1 (by omega) D1.out)
      have C4 := Lib.hid (locslot_any vy false W7 ry.1 (by omega) D2.out)
      go_wp2_with fail
      refine C3.out.mono ?_
      rintro e W8 ⟨rfl, rfl⟩
      go_wp2_with fail
      refine C4.out.mono ?_
      rintro e W8 ⟨rfl, rfl⟩
      clear C3 C4 hj5 hj6
      have j0 := HG.out.j_.cell 0; have j1 := HG.out.j_.cell 1; have j2 := HG.out.j_.cell 2; have j3 := HG.out.j_.cell 3; have j4 := HG.out.j_.cell 4; have j5 := HG.out.j_.cell 5; have j6 := HG.out.j_.cell 6
      have jf0 := HG.out.j_.frozen 0; have jf1 := HG.out.j_.frozen 1; have jf2 := HG.out.j_.frozen 2; have jf3 := HG.out.j_.frozen 3; have jf4 := HG.out.j_.frozen 4; have jf5 := HG.out.j_.frozen 5; have jf6 := HG.out.j_.frozen 6
      simp only [List.getElem?_toArray, List.getElem?_cons_zero, List.getElem?_cons_succ] at j0 j1 j2 j3 j4 j5 j6
      have z0 := HG.out.z_.cell 0; have z1 := HG.out.z_.cell 1; have z2 := HG.out.z_.cell 2; have z3 := HG.out.z_.cell 3; have z4 := HG.out.z_.cell 4; have z5 := HG.out.z_.cell 5; have z6 := HG.out.z_.cell 6
      have zf0 := HG.out.z_.frozen 0; have zf1 := HG.out.z_.frozen 1; have zf2 := HG.out.z_.frozen 2; have zf3 := HG.out.z_.frozen 3; have zf4 := HG.out.z_.frozen 4; have zf5 := HG.out.z_.frozen 5; have zf6 := HG.out.z_.frozen 6
      simp only [List.getElem?_toArray, List.getElem?_cons_zero, List.getElem?_cons_succ] at z0 z1 z2 z3 z4 z5 z6
      go_wp2
      (try simp only [Exit.inBlock, Exit.then])
      have hmz := mods7i W7 z (.int .i64 18) (.int .i64 0) (.int .i64 0) (.int .i64 0) (.int .i64 0) (.int .i64 vx) (.int .i64 vy)
      refine bodyPost_ret (v := .agg #[.int .i64 18, .int .i64 0, .int .i64 0, .int .i64 0, .int .i64 0, .int .i64 vx, .int .i64 vy]) ?_ rfl ⟨rfl, HG.out.md.then hmz fun q hq => .inr (by have := HG.out.wz; unfold Is at hq; omega), by rw [HT.out]; exact HG.out.ce.mods hmz fun q hq => .inr (by have := HG.out.wz; have := HG.out.pw; unfold Is at hq; omega)⟩
      exact results_cell_row rfl _ _ z 34 #[.int .i64 18, .int .i64 0, .int .i64 0, .int .i64 0, .int .i64 0, .int .i64 vx, .int .i64 vy] (0, 0) _ rfl (HG.out.z_.put7i _ _ _ _ _ _ _) Try.underlying34 rfl (by kernel_rfl)
  · have D1 : Hid (decide (vx % 2 = 1) = false) := decide_eq_false h1
    have HT : Hid (twoE true vx vy sy = sy) := if_neg fun hh => h1 hh.2.2.1
    clear h1
    have C3 := Lib.hid (locslot_any vx false W7 rx.1 (by omega) D1.out)
    go_wp2_with fail
    refine C3.out.mono ?_
    rintro e W8 ⟨rfl, rfl⟩
    clear C3 hj5 hj6
    have j0 := HG.out.j_.cell 0; have j1 := HG.out.j_.cell 1; have j2 := HG.out.j_.cell 2; have j3 := HG.out.j_.cell 3; have j4 := HG.out.j_.cell 4; have j5 := HG.out.j_.cell 5; have j6 := HG.out.j_.cell 6
    have jf0 := HG.out.j_.frozen 0; have jf1 := HG.out.j_.frozen 1; have jf2 := HG.out.j_.frozen 2; have jf3 := HG.out.j_.frozen 3; have jf4 := HG.out.j_.frozen 4; have jf5 := HG.out.j_.frozen 5; have jf6 := HG.out.j_.frozen 6
    simp only [List.getElem?_toArray, List.getElem?_cons_zero, List.getElem?_cons_succ] at j0 j1 j2 j3 j4 j5 j6
    have z0 := HG.out.z_.cell 0; have z1 := HG.out.z_.cell 1; have z2 := HG.out.z_.cell 2; have z3 := HG.out.z_.cell 3; have z4 := HG.out.z_.cell 4; have z5 := HG.out.z_.cell 5; have z6 := HG.out.z_.cell 6
    have zf0 := HG.out.z_.frozen 0; have zf1 := HG.out.z_.frozen 1; have zf2 := HG.out.z_.frozen 2; have zf3 := HG.out.z_.frozen 3; have zf4 := HG.out.z_.frozen 4; have zf5 := HG.out.z_.frozen 5; have zf6 := HG.out.z_.frozen 6
    simp only [List.getElem?_toArray, List.getElem?_cons_zero, List.getElem?_cons_succ] at z0 z1 z2 z3 z4 z5 z6
    go_wp2
    (try simp only [Exit.inBlock, Exit.then])
    have hmz := mods7i W7 z (.int .i64 18) (.int .i64 0) (.int .i64 0) (.int .i64 0) (.int .i64 0) (.int .i64 vx) (.int .i64 vy)
    refine bodyPost_ret (v := .agg #[.int .i64 18, .int .i64 0, .int .i64 0, .int .i64 0, .int .i64 0, .int .i64 vx, .int .i64 vy]) ?_ rfl ⟨rfl, HG.out.md.then hmz fun q hq => .inr (by have := HG.out.wz; unfold Is at hq; omega), by rw [HT.out]; exact HG.out.ce.mods hmz fun q hq => .inr (by have := HG.out.wz; have := HG.out.pw; unfold Is at hq; omega)⟩
    exact results_cell_row rfl _ _ z 34 #[.int .i64 18, .int .i64 0, .int .i64 0, .int .i64 0, .int .i64 0, .int .i64 vx, .int .i64 vy] (0, 0) _ rfl (HG.out.z_.put7i _ _ _ _ _ _ _) Try.underlying34 rfl (by kernel_rfl)

end Go.Proofs.Ytacmgfndmolnfaa
