/-
  The program of layer 17: Term; what the three readings leave (made by wip/lab/genicpgf.py).
-/
import Derived.Test.YtacmgfndmolnfaaIcPgE
namespace Go.Proofs.Ytacmgfndmolnfaa
open Go.RowKit
set_option linter.unusedVariables false
set_option linter.unusedSimpArgs false

/-- What Term carries: the result's block z, the shape s, the fields k and q with their bounds at x and y, the terminator j. -/
structure GTS (w : World) (lo p : Nat) (l : List Nat) (A : Option Addr) (c : Nat) (t : Ip) (r n : Int) (b0 b1 b2 : Bool) (z s k x q y j : Nat) (v0 v1 v2 v3 : Int) (W : World) : Prop where
  g : GZ w lo p l A c t 37 #[.int .i64 0, .int .i64 0, .int .i64 0, .int .i64 0] z W
  s_ : Row W s 79 #[.bool b0, .bool b1, .bool b2]
  k_ : Row W k 84 (numC p 73 #[.pointer (some ⟨x, 0, none⟩)] 9)
  x_ : Row W x 3 #[.int .i64 r]
  q_ : Row W q 84 (numC p 73 #[.pointer (some ⟨y, 0, none⟩)] 11)
  y_ : Row W y 3 #[.int .i64 n]
  j_ : Row W j 37 #[.int .i64 v0, .int .i64 v1, .int .i64 v2, .int .i64 v3]
  zs : z < s
  sx : s < x
  xk : x < k
  ky : k < y
  yq : y < q
  qj : q < j
section
variable {w : World} {lo p : Nat} {l : List Nat} {A : Option Addr} {c : Nat} {t t' : Ip} {r n : Int} {b0 b1 b2 : Bool} {z s k x q y j : Nat} {v0 v1 v2 v3 : Int} {W W' : World}
theorem GTS.next (h : GTS w lo p l A c t r n b0 b1 b2 z s k x q y j v0 v1 v2 v3 W) (hm : Mods (Is p) W W') (hc : CE lo p l A c t' W') : GTS w lo p l A c t' r n b0 b1 b2 z s k x q y j v0 v1 v2 v3 W' := by
  obtain ⟨g, s_, k_, x_, q_, y_, j_, zs, sx, xk, ky, yq, qj⟩ := h
  have pw := g.pw
  have wz := g.wz
  exact ⟨g.next hm hc, s_.mods hm (fun hh => by unfold Is at hh; omega), k_.mods hm (fun hh => by unfold Is at hh; omega), x_.mods hm (fun hh => by unfold Is at hh; omega), q_.mods hm (fun hh => by unfold Is at hh; omega), y_.mods hm (fun hh => by unfold Is at hh; omega), j_.mods hm (fun hh => by unfold Is at hh; omega), zs, sx, xk, ky, yq, qj⟩
theorem GTS.put (h : GTS w lo p l A c t r n b0 b1 b2 z s k x q y j v0 v1 v2 v3 W) (i : Nat) (u : Value) {u0 u1 u2 u3 : Int} (e : (#[.int .i64 v0, .int .i64 v1, .int .i64 v2, .int .i64 v3] : Array Value).setIfInBounds i u = #[.int .i64 u0, .int .i64 u1, .int .i64 u2, .int .i64 u3]) :
    GTS w lo p l A c t r n b0 b1 b2 z s k x q y j u0 u1 u2 u3 (W.setCell ⟨j, i, none⟩ u) := by
  obtain ⟨g, s_, k_, x_, q_, y_, j_, zs, sx, xk, ky, yq, qj⟩ := h
  have pw := g.pw
  have wz := g.wz
  have hp := j_.put i u
  rw [e] at hp
  have hj : Mods (Is j) W (W.setCell ⟨j, i, none⟩ u) := (Mods.refl _ _).put i u
  exact ⟨⟨g.md.then hj fun q hq => .inr (by unfold Is at hq; omega), g.ce.mods hj fun q hq => .inr (by unfold Is at hq; omega), g.z_.far (q := ⟨j, i, none⟩) (by show z ≠ j; omega) u, pw, wz⟩,
    s_.far (q := ⟨j, i, none⟩) (by show s ≠ j; omega) u, k_.far (q := ⟨j, i, none⟩) (by show k ≠ j; omega) u, x_.far (q := ⟨j, i, none⟩) (by show x ≠ j; omega) u, q_.far (q := ⟨j, i, none⟩) (by show q ≠ j; omega) u, y_.far (q := ⟨j, i, none⟩) (by show y ≠ j; omega) u, hp, zs, sx, xk, ky, yq, qj⟩
theorem GTS.below (h : GTS w lo p l A c t r n b0 b1 b2 z s k x q y j v0 v1 v2 v3 W) (hb : Below W.heap.size W W') : GTS w lo p l A c t r n b0 b1 b2 z s k x q y j v0 v1 v2 v3 W' :=
  h.next (Mods.of_below hb) (h.g.ce.mods (S := No) (Mods.of_below hb) fun _ hk => hk.elim)
end

set_option maxRecDepth 100000 in
set_option maxHeartbeats 4000000 in
theorem term_ce {w : World} {lo p : Nat} {l : List Nat} {A : Option Addr} {c : Nat} {s : Ip} (h : CE lo p l A c s w) (r n : Int) (hr : 0 ≤ r ∧ r ≤ 65535) (hn : 0 ≤ n ∧ n ≤ 65535) {m : Tm} {t : Ip} (hm : termE r n s = (m, t)) :
    Calls Try.prog 11 #[.pointer (some ⟨p, 0, none⟩), .int .i64 r, .int .i64 n] w fun e w' => e = .returned (.agg #[.int .i64 m.kind, .int .i64 m.a, .int .i64 m.to, .int .i64 m.el]) ∧ Mods (Is p) w w' ∧ CE lo p l A c t w' := by
  have hmf : ∀ (fn : Fn) (first cap : Array Value) (w : World), (Instr.makeFunc fn first cap).run Try.prog w = .ok (.func fn first cap) w := fun _ _ _ _ => rfl
  have HG : Hid (GZ w lo p l A c s 37 #[.int .i64 0, .int .i64 0, .int .i64 0, .int .i64 0] w.heap.size (w.alloc (.cells #[.int .i64 0, .int .i64 0, .int .i64 0, .int .i64 0] 37))) := GZ.new h _ _
  have C1 := Lib.hid (first_term HG.out.ce)
  obtain ⟨f, hf⟩ : ∃ y, tkE s = y := ⟨_, rfl⟩
  have hf' : firstE 3 0 16 s = f := hf
  rw [hf'] at C1
  have hk : f.2.err = 0 → 1 ≤ f.1 ∧ f.1 ≤ 3 := fun h0 => by
    have := firstE_ok (most := 3) (nt := 0) (why := 16) (s := s) (h.byt (by
      by_cases hs : s.err = 0
      · exact hs
      · have : firstE 3 0 16 s = (0, s) := by unfold firstE; exact if_pos hs
        rw [hf'] at this
        rw [this] at h0
        exact absurd h0 hs)) (by decide) (by rw [hf']; exact h0)
    rw [hf'] at this
    exact ⟨this.2.1, this.2.2.1⟩
  obtain ⟨ta, ha⟩ : ∃ y, taE r s = y := ⟨_, rfl⟩
  obtain ⟨tt, ht⟩ : ∃ y, ttE r n s = y := ⟨_, rfl⟩
  obtain ⟨te, he⟩ : ∃ y, teE r n s = y := ⟨_, rfl⟩
  have H1 : Hid (optE (kA f.1) r 9 f.2 = ta) := by
    show _ = _
    rw [← ha]
    unfold taE
    rw [hf]
    exact optE_eq fun h0 => by have := hk h0; rw [Bool.eq_iff_iff]; simp [kA]; omega
  have na : ta.2.err = 0 → f.2.err = 0 := fun h0 => by
    by_cases h1 : f.2.err = 0
    · exact h1
    · rw [← H1.out, optE_err h1] at h0; exact h0
  have H2 : Hid (optE (kT f.1) n 11 ta.2 = tt) := by
    show _ = _
    rw [← ht]
    unfold ttE
    rw [hf, ha]
    exact optE_eq fun h0 => by have := hk (na h0); rw [Bool.eq_iff_iff]; simp [kT]; omega
  have nt : tt.2.err = 0 → f.2.err = 0 := fun h0 => by
    by_cases h1 : ta.2.err = 0
    · exact na h1
    · rw [← H2.out, optE_err h1] at h0; exact absurd h0 h1
  have H3 : Hid (optE (kE f.1) n 11 tt.2 = te) := by
    show _ = _
    rw [← he]
    unfold teE
    rw [hf, ht]
    exact optE_eq fun h0 => by have := hk (nt h0); rw [Bool.eq_iff_iff]; simp [kE]
  have hm0 : termE r n s = (if te.2.err ≠ 0 then Tm0 else ⟨f.1, ta.1, tt.1, te.1⟩, te.2) := by
    unfold termE
    rw [he, ht, ha, hf]
    split <;> rfl
  rw [hm0] at hm
  have hm1 : (if te.2.err ≠ 0 then Tm0 else ⟨f.1, ta.1, tt.1, te.1⟩) = m := congrArg Prod.fst hm
  have hm2 : te.2 = t := congrArg Prod.snd hm
  have HE : Hid ((if te.2.err ≠ 0 then #[.int .i64 0, .int .i64 0, .int .i64 0, .int .i64 0] else #[.int .i64 f.1, .int .i64 ta.1, .int .i64 tt.1, .int .i64 te.1]) = (#[.int .i64 m.kind, .int .i64 m.a, .int .i64 m.to, .int .i64 m.el] : Array Value)) := by
    show _ = _
    rw [← hm1]
    split <;> rfl
  rw [← hm2]
  have hR := Lib.hid hr
  have hN := Lib.hid hn
  clear hm hm0 hm1 hm2 ha ht he hf hf' hk na nt h hr hn
  obtain ⟨b0, hb0⟩ : ∃ y, Hid (kA f.1 = y) := ⟨_, rfl⟩
  obtain ⟨b1, hb1⟩ : ∃ y, Hid (kT f.1 = y) := ⟨_, rfl⟩
  obtain ⟨b2, hb2⟩ : ∃ y, Hid (kE f.1 = y) := ⟨_, rfl⟩
  obtain ⟨b3, hb3⟩ : ∃ y, Hid (kOk f.1 = y) := ⟨_, rfl⟩
  rw [hb0.out] at H1
  rw [hb1.out] at H2
  rw [hb2.out] at H3
  have CS := Lib.hid fun W => tshape_any f.1 W
  unfold kshp at CS
  rw [hb0.out, hb1.out, hb2.out, hb3.out] at CS
  clear hb0 hb1 hb2 hb3
  go_enter Try.func11, Try.ntmps11
  go_upto_region 1 with fail
  generalize (w.alloc (.cells #[.int .i64 0, .int .i64 0, .int .i64 0, .int .i64 0] 37)) = W0 at *
  generalize w.heap.size = z at *
  go_wp2_with fail
  refine C1.out.mono ?_
  rintro e W1 ⟨rfl, hm, hc⟩
  have HG1 := Lib.hid (HG.out.next hm hc)
  clear hm hc HG C1
  go_wp2_with fail
  refine (CS.out _).mono ?_
  rintro e W2 ⟨rfl, hb⟩
  have HG2 := Lib.hid (HG1.out.below hb)
  clear hb HG1 CS
  go_upto_region 3 with fail
  have HS3 := Lib.hid (Row.new W2 79 #[.bool b0, .bool b1, .bool b2])
  have HG3 := Lib.hid (HG2.out.below ((Below.refl W2.heap.size W2).alloc (Nat.le_refl _) (.cells #[.bool b0, .bool b1, .bool b2] 79)))
  have hzs := HG2.out.z_.lt
  clear HG2
  generalize (W2.alloc (.cells #[.bool b0, .bool b1, .bool b2] 79)) = W3 at *
  generalize W2.heap.size = s0 at *
  have hs3 := HS3.out.lt
  go_wp2_with fail
  refine (below_any p r 9 W3).mono ?_
  rintro e W4 ⟨x, rfl, hx2, hx, hb⟩
  have HG4 := Lib.hid (HG3.out.below hb)
  have HS4 := Lib.hid (HS3.out.below hb HS3.out.lt)
  have HX4 := Lib.hid hx
  have hx4 := hx.lt
  clear hb hx HG3 HS3
  unfold numC
  go_upto_region 4 with fail
  have HK5 := Lib.hid (Row.new W4 84 #[.func (.func 72) #[.pointer (some ⟨p, 0, none⟩)] #[], .func (.func 34) #[.pointer (some ⟨p, 0, none⟩)] #[], .func (.func 73) #[] #[.pointer (some ⟨x, 0, none⟩)], .int .i64 9])
  have HS5 := Lib.hid (HS4.out.alloc (.cells #[.func (.func 72) #[.pointer (some ⟨p, 0, none⟩)] #[], .func (.func 34) #[.pointer (some ⟨p, 0, none⟩)] #[], .func (.func 73) #[] #[.pointer (some ⟨x, 0, none⟩)], .int .i64 9] 84))
  have HX5 := Lib.hid (HX4.out.alloc (.cells #[.func (.func 72) #[.pointer (some ⟨p, 0, none⟩)] #[], .func (.func 34) #[.pointer (some ⟨p, 0, none⟩)] #[], .func (.func 73) #[] #[.pointer (some ⟨x, 0, none⟩)], .int .i64 9] 84))
  have HG5 := Lib.hid (HG4.out.below ((Below.refl W4.heap.size W4).alloc (Nat.le_refl _) (.cells #[.func (.func 72) #[.pointer (some ⟨p, 0, none⟩)] #[], .func (.func 34) #[.pointer (some ⟨p, 0, none⟩)] #[], .func (.func 73) #[] #[.pointer (some ⟨x, 0, none⟩)], .int .i64 9] 84)))
  clear HG4 HS4 HX4
  generalize (W4.alloc (.cells #[.func (.func 72) #[.pointer (some ⟨p, 0, none⟩)] #[], .func (.func 34) #[.pointer (some ⟨p, 0, none⟩)] #[], .func (.func 73) #[] #[.pointer (some ⟨x, 0, none⟩)], .int .i64 9] 84)) = W5 at *
  generalize W4.heap.size = k at *
  have hs5 := HK5.out.lt
  go_wp2_with fail
  refine (below_any p n 11 W5).mono ?_
  rintro e W6 ⟨y, rfl, hy2, hy, hb⟩
  have HG6 := Lib.hid (HG5.out.below hb)
  have HS6 := Lib.hid (HS5.out.below hb HS5.out.lt)
  have HX6 := Lib.hid (HX5.out.below hb HX5.out.lt)
  have HK6 := Lib.hid (HK5.out.below hb HK5.out.lt)
  have HY6 := Lib.hid hy
  have hy6 := hy.lt
  clear hb hy HG5 HS5 HX5 HK5
  unfold numC
  go_upto_region 5 with fail
  have HQ7 := Lib.hid (Row.new W6 84 #[.func (.func 72) #[.pointer (some ⟨p, 0, none⟩)] #[], .func (.func 34) #[.pointer (some ⟨p, 0, none⟩)] #[], .func (.func 73) #[] #[.pointer (some ⟨y, 0, none⟩)], .int .i64 11])
  have HS7 := Lib.hid (HS6.out.alloc (.cells #[.func (.func 72) #[.pointer (some ⟨p, 0, none⟩)] #[], .func (.func 34) #[.pointer (some ⟨p, 0, none⟩)] #[], .func (.func 73) #[] #[.pointer (some ⟨y, 0, none⟩)], .int .i64 11] 84))
  have HX7 := Lib.hid (HX6.out.alloc (.cells #[.func (.func 72) #[.pointer (some ⟨p, 0, none⟩)] #[], .func (.func 34) #[.pointer (some ⟨p, 0, none⟩)] #[], .func (.func 73) #[] #[.pointer (some ⟨y, 0, none⟩)], .int .i64 11] 84))
  have HK7 := Lib.hid (HK6.out.alloc (.cells #[.func (.func 72) #[.pointer (some ⟨p, 0, none⟩)] #[], .func (.func 34) #[.pointer (some ⟨p, 0, none⟩)] #[], .func (.func 73) #[] #[.pointer (some ⟨y, 0, none⟩)], .int .i64 11] 84))
  have HY7 := Lib.hid (HY6.out.alloc (.cells #[.func (.func 72) #[.pointer (some ⟨p, 0, none⟩)] #[], .func (.func 34) #[.pointer (some ⟨p, 0, none⟩)] #[], .func (.func 73) #[] #[.pointer (some ⟨y, 0, none⟩)], .int .i64 11] 84))
  have HG7 := Lib.hid (HG6.out.below ((Below.refl W6.heap.size W6).alloc (Nat.le_refl _) (.cells #[.func (.func 72) #[.pointer (some ⟨p, 0, none⟩)] #[], .func (.func 34) #[.pointer (some ⟨p, 0, none⟩)] #[], .func (.func 73) #[] #[.pointer (some ⟨y, 0, none⟩)], .int .i64 11] 84)))
  clear HG6 HS6 HX6 HK6 HY6
  generalize (W6.alloc (.cells #[.func (.func 72) #[.pointer (some ⟨p, 0, none⟩)] #[], .func (.func 34) #[.pointer (some ⟨p, 0, none⟩)] #[], .func (.func 73) #[] #[.pointer (some ⟨y, 0, none⟩)], .int .i64 11] 84)) = W7 at *
  generalize W6.heap.size = q at *
  have hs7 := HQ7.out.lt
  go_upto_region 6 with fail
  have HT : Hid (GTS w lo p l A c f.2 r n b0 b1 b2 z s0 k x q y W7.heap.size f.1 0 0 0 (W7.alloc (.cells #[.int .i64 f.1, .int .i64 0, .int .i64 0, .int .i64 0] 37))) :=
    ⟨HG7.out.below ((Below.refl W7.heap.size W7).alloc (Nat.le_refl _) _), HS7.out.alloc _, HK7.out.alloc _, HX7.out.alloc _, HQ7.out.alloc _, HY7.out.alloc _, Row.new _ _ _, by omega, by omega, by omega, by omega, by omega, by omega⟩
  clear HG7 HS7 HX7 HK7 HY7 HQ7
  generalize (W7.alloc (.cells #[.int .i64 f.1, .int .i64 0, .int .i64 0, .int .i64 0] 37)) = W8 at *
  generalize W7.heap.size = j at *
  have C2 := Lib.hid (fld_any HT.out.g.ce b0 x r 9 HT.out.x_ (by have := HT.out.g.pw; have := HT.out.g.wz; have := HT.out.zs; have := HT.out.sx; have := HT.out.xk; have := HT.out.ky; omega) (by decide) (by have := hR.out; have := hN.out; omega))
  rw [H1.out] at C2
  have s0 := HT.out.s_.cell 0; have s1 := HT.out.s_.cell 1; have s2 := HT.out.s_.cell 2
  simp only [List.getElem?_toArray, List.getElem?_cons_zero, List.getElem?_cons_succ] at s0 s1 s2
  have hk := HT.out.k_
  unfold numC at hk
  have k0 := hk.cell 0; have k1 := hk.cell 1; have k2 := hk.cell 2; have k3 := hk.cell 3
  simp only [List.getElem?_toArray, List.getElem?_cons_zero, List.getElem?_cons_succ] at k0 k1 k2 k3
  clear hk
  go_wp2_with fail
  refine C2.out.mono ?_
  rintro e W8r ⟨rfl, hm, hc⟩
  have HTr := Lib.hid (HT.out.next hm hc)
  clear hm hc C2 s0 s1 s2 k0 k1 k2 k3 HT
  have j0 := HTr.out.j_.cell 0; have j1 := HTr.out.j_.cell 1; have j2 := HTr.out.j_.cell 2; have j3 := HTr.out.j_.cell 3
  have jf0 := HTr.out.j_.frozen 0; have jf1 := HTr.out.j_.frozen 1; have jf2 := HTr.out.j_.frozen 2; have jf3 := HTr.out.j_.frozen 3
  simp only [List.getElem?_toArray, List.getElem?_cons_zero, List.getElem?_cons_succ] at j0 j1 j2 j3
  go_upto_region 7 with fail
  clear j0 j1 j2 j3 jf0 jf1 jf2 jf3
  have HT : Hid (GTS w lo p l A c ta.2 r n b0 b1 b2 z s0 k x q y j f.1 ta.1 0 0 (W8r.setCell ⟨j, 1, none⟩ (.int .i64 ta.1))) := HTr.out.put 1 _ rfl
  generalize (W8r.setCell ⟨j, 1, none⟩ (.int .i64 ta.1)) = W9 at *
  clear HTr
  have C2 := Lib.hid (fld_any HT.out.g.ce b1 y n 11 HT.out.y_ (by have := HT.out.g.pw; have := HT.out.g.wz; have := HT.out.zs; have := HT.out.sx; have := HT.out.xk; have := HT.out.ky; omega) (by decide) (by have := hR.out; have := hN.out; omega))
  rw [H2.out] at C2
  have s0 := HT.out.s_.cell 0; have s1 := HT.out.s_.cell 1; have s2 := HT.out.s_.cell 2
  simp only [List.getElem?_toArray, List.getElem?_cons_zero, List.getElem?_cons_succ] at s0 s1 s2
  have hk := HT.out.q_
  unfold numC at hk
  have k0 := hk.cell 0; have k1 := hk.cell 1; have k2 := hk.cell 2; have k3 := hk.cell 3
  simp only [List.getElem?_toArray, List.getElem?_cons_zero, List.getElem?_cons_succ] at k0 k1 k2 k3
  clear hk
  go_wp2_with fail
  refine C2.out.mono ?_
  rintro e W9r ⟨rfl, hm, hc⟩
  have HTr := Lib.hid (HT.out.next hm hc)
  clear hm hc C2 s0 s1 s2 k0 k1 k2 k3 HT
  have j0 := HTr.out.j_.cell 0; have j1 := HTr.out.j_.cell 1; have j2 := HTr.out.j_.cell 2; have j3 := HTr.out.j_.cell 3
  have jf0 := HTr.out.j_.frozen 0; have jf1 := HTr.out.j_.frozen 1; have jf2 := HTr.out.j_.frozen 2; have jf3 := HTr.out.j_.frozen 3
  simp only [List.getElem?_toArray, List.getElem?_cons_zero, List.getElem?_cons_succ] at j0 j1 j2 j3
  go_upto_region 8 with fail
  clear j0 j1 j2 j3 jf0 jf1 jf2 jf3
  have HT : Hid (GTS w lo p l A c tt.2 r n b0 b1 b2 z s0 k x q y j f.1 ta.1 tt.1 0 (W9r.setCell ⟨j, 2, none⟩ (.int .i64 tt.1))) := HTr.out.put 2 _ rfl
  generalize (W9r.setCell ⟨j, 2, none⟩ (.int .i64 tt.1)) = W10 at *
  clear HTr
  have C2 := Lib.hid (fld_any HT.out.g.ce b2 y n 11 HT.out.y_ (by have := HT.out.g.pw; have := HT.out.g.wz; have := HT.out.zs; have := HT.out.sx; have := HT.out.xk; have := HT.out.ky; omega) (by decide) (by have := hR.out; have := hN.out; omega))
  rw [H3.out] at C2
  have s0 := HT.out.s_.cell 0; have s1 := HT.out.s_.cell 1; have s2 := HT.out.s_.cell 2
  simp only [List.getElem?_toArray, List.getElem?_cons_zero, List.getElem?_cons_succ] at s0 s1 s2
  have hk := HT.out.q_
  unfold numC at hk
  have k0 := hk.cell 0; have k1 := hk.cell 1; have k2 := hk.cell 2; have k3 := hk.cell 3
  simp only [List.getElem?_toArray, List.getElem?_cons_zero, List.getElem?_cons_succ] at k0 k1 k2 k3
  clear hk
  go_wp2_with fail
  refine C2.out.mono ?_
  rintro e W10r ⟨rfl, hm, hc⟩
  have HTr := Lib.hid (HT.out.next hm hc)
  clear hm hc C2 s0 s1 s2 k0 k1 k2 k3 HT
  have j0 := HTr.out.j_.cell 0; have j1 := HTr.out.j_.cell 1; have j2 := HTr.out.j_.cell 2; have j3 := HTr.out.j_.cell 3
  have jf0 := HTr.out.j_.frozen 0; have jf1 := HTr.out.j_.frozen 1; have jf2 := HTr.out.j_.frozen 2; have jf3 := HTr.out.j_.frozen 3
  simp only [List.getElem?_toArray, List.getElem?_cons_zero, List.getElem?_cons_succ] at j0 j1 j2 j3
  go_upto_region 9 with fail
  clear j0 j1 j2 j3 jf0 jf1 jf2 jf3
  have HT : Hid (GTS w lo p l A c te.2 r n b0 b1 b2 z s0 k x q y j f.1 ta.1 tt.1 te.1 (W10r.setCell ⟨j, 3, none⟩ (.int .i64 te.1))) := HTr.out.put 3 _ rfl
  generalize (W10r.setCell ⟨j, 3, none⟩ (.int .i64 te.1)) = W11 at *
  clear HTr
  have j0 := HT.out.j_.cell 0; have j1 := HT.out.j_.cell 1; have j2 := HT.out.j_.cell 2; have j3 := HT.out.j_.cell 3
  have jf0 := HT.out.j_.frozen 0; have jf1 := HT.out.j_.frozen 1; have jf2 := HT.out.j_.frozen 2; have jf3 := HT.out.j_.frozen 3
  simp only [List.getElem?_toArray, List.getElem?_cons_zero, List.getElem?_cons_succ] at j0 j1 j2 j3
  have C3 := Lib.hid (unl_term HT.out.g.ce f.1 ta.1 tt.1 te.1)
  rw [HE.out] at C3
  go_wp2_with fail
  refine C3.out.mono ?_
  rintro e W12 ⟨rfl, hb⟩
  have HT2 := Lib.hid (HT.out.below hb)
  clear hb HT C3 j0 j1 j2 j3 jf0 jf1 jf2 jf3
  have z0 := HT2.out.g.z_.cell 0; have z1 := HT2.out.g.z_.cell 1; have z2 := HT2.out.g.z_.cell 2; have z3 := HT2.out.g.z_.cell 3
  have zf0 := HT2.out.g.z_.frozen 0; have zf1 := HT2.out.g.z_.frozen 1; have zf2 := HT2.out.g.z_.frozen 2; have zf3 := HT2.out.g.z_.frozen 3
  simp only [List.getElem?_toArray, List.getElem?_cons_zero, List.getElem?_cons_succ] at z0 z1 z2 z3
  go_wp2
  (try simp only [Exit.inBlock, Exit.then])
  refine bodyPost_ret (v := .agg #[.int .i64 m.kind, .int .i64 m.a, .int .i64 m.to, .int .i64 m.el]) ?_ rfl ⟨rfl, HT2.out.g.fin (mods4i W12 z (.int .i64 m.kind) (.int .i64 m.a) (.int .i64 m.to) (.int .i64 m.el))⟩
  exact results_cell_row rfl _ _ z 37 #[.int .i64 m.kind, .int .i64 m.a, .int .i64 m.to, .int .i64 m.el] (0, 0) _ rfl (HT2.out.g.z_.put4i _ _ _ _) Try.underlying37 rfl (by kernel_rfl)

/-- What a reading leaves. -/
def Rin (lo p : Nat) (l : List Nat) (A : Option Addr) (c : Nat) (v : Array Value) (t : Ip) (w : World) (e : Ending) (w' : World) : Prop :=
  e = .returned (.agg v) ∧ Mods (Is p) w w' ∧ ∃ i', Cur w' lo p l i' t.err A c ∧ (t.err = 0 → l.drop i' = t.rest)

section
variable {w : World} {lo p : Nat} {l : List Nat} {i : Nat} {er : Int} {A : Option Addr} {c : Nat}
theorem picinstr_any (h : Cur w lo p l i er A c) (r : Int) (hr : 0 ≤ r ∧ r ≤ 65535) {m : Mi} {t : Ip} (hm : instrE r ⟨l.drop i, er⟩ = (m, t)) :
    Calls Try.prog 9 #[.pointer (some ⟨p, 0, none⟩), .int .i64 r] w (Rin lo p l A c #[.int .i64 m.op, .int .i64 m.d, .int .i64 m.a, .int .i64 m.b, .int .i64 m.imm] t w) :=
  instr_ce (s := ⟨l.drop i, er⟩) ⟨i, h, fun _ => rfl⟩ r hr hm
theorem picmach_any (h : Cur w lo p l i er A c) (r n : Int) (hr : 0 ≤ r ∧ r ≤ 65535) (hn : 0 ≤ n ∧ n ≤ 65535) {m : Mi} {t : Ip} (hm : machE r n ⟨l.drop i, er⟩ = (m, t)) :
    Calls Try.prog 10 #[.pointer (some ⟨p, 0, none⟩), .int .i64 r, .int .i64 n] w (Rin lo p l A c #[.int .i64 m.op, .int .i64 m.d, .int .i64 m.a, .int .i64 m.b, .int .i64 m.imm, .int .i64 m.dst, .int .i64 m.src] t w) :=
  mach_ce (s := ⟨l.drop i, er⟩) ⟨i, h, fun _ => rfl⟩ r n hr hn hm
theorem picterm_any (h : Cur w lo p l i er A c) (r n : Int) (hr : 0 ≤ r ∧ r ≤ 65535) (hn : 0 ≤ n ∧ n ≤ 65535) {m : Tm} {t : Ip} (hm : termE r n ⟨l.drop i, er⟩ = (m, t)) :
    Calls Try.prog 11 #[.pointer (some ⟨p, 0, none⟩), .int .i64 r, .int .i64 n] w (Rin lo p l A c #[.int .i64 m.kind, .int .i64 m.a, .int .i64 m.to, .int .i64 m.el] t w) :=
  term_ce (s := ⟨l.drop i, er⟩) ⟨i, h, fun _ => rfl⟩ r n hr hn hm
end

end Go.Proofs.Ytacmgfndmolnfaa
