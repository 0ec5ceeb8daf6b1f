/-
  The program of layer 21: the contents of the sections.
-/
import Derived.Test.YtkapmfopfddmbaaDcPe
import Derived.Test.YtkapmfopfddmbaaDcPf
import Derived.Test.YtkapmfopfddmbaaDcPg
import Derived.Test.YtkapmfopfddmbaaPk28
namespace Go.Proofs.Ytkapmfopfddmbaa
open Go.RowKit
set_option linter.unusedVariables false
set_option linter.unusedSimpArgs false

theorem funcE_snd21 (s : Ip) : (funcE s).2 = (fB s).2 := by unfold funcE; split <;> rfl

theorem mfuncE_snd21 (s : Ip) : (mfuncE s).2 = (gB s).2 := by unfold mfuncE; split <;> rfl

theorem func_num21 {x : List Nat} (hb : Byt x) (h : endT (fB ⟨x, 0⟩).2 = 0) : (funcE ⟨x, 0⟩).1.args = (fA ⟨x, 0⟩).1 ∧ (funcE ⟨x, 0⟩).1.regs = (fR' ⟨x, 0⟩).1 ∧ ((funcE ⟨x, 0⟩).1.bs.length : Int) = fcB ⟨x, 0⟩ := by
  have h1 := (endT_zero h).1
  obtain ⟨k1, _⟩ := fc_ok (s := ⟨x, 0⟩) hb h1
  unfold funcE
  rw [if_neg (fun hh => hh h1), k1]
  exact ⟨rfl, rfl, rfl⟩

theorem mfunc_num21 {x : List Nat} (hb : Byt x) (h : endT (gB ⟨x, 0⟩).2 = 0) : (mfuncE ⟨x, 0⟩).1.args = (fA ⟨x, 0⟩).1 ∧ (mfuncE ⟨x, 0⟩).1.regs = (fR' ⟨x, 0⟩).1 ∧ (mfuncE ⟨x, 0⟩).1.slots = (gS ⟨x, 0⟩).1 ∧ ((mfuncE ⟨x, 0⟩).1.ms.length : Int) = gcB ⟨x, 0⟩ := by
  have h1 := (endT_zero h).1
  obtain ⟨k1, _⟩ := gc_ok (s := ⟨x, 0⟩) hb h1
  unfold mfuncE
  rw [if_neg (fun hh => hh h1), k1]
  exact ⟨rfl, rfl, rfl, rfl⟩

/-- The cost of three sections, in the program's words. -/
theorem cost1_1 {y : Nat} {o p q : List Nat} (h : endT (fB ⟨o, 0⟩).2 ≠ 0) : cost1 y o p q = ⟨fcB ⟨o, 0⟩, fcI ⟨o, 0⟩, 0, y⟩ := by
  unfold cost1
  rw [funcE_snd21, if_pos h]

theorem cost1_2 {y : Nat} {o p q : List Nat} (ho : Byt o) (hp : Byt p) (h : endT (fB ⟨o, 0⟩).2 = 0) (h2 : endT (gB ⟨p, 0⟩).2 ≠ 0 ∨ fcB ⟨o, 0⟩ ≠ gcB ⟨p, 0⟩ ∨ (fA ⟨o, 0⟩).1 ≠ (fA ⟨p, 0⟩).1) : cost1 y o p q = ⟨fcB ⟨o, 0⟩ + gcB ⟨p, 0⟩, fcI ⟨o, 0⟩ + gcI ⟨p, 0⟩, 0, y⟩ := by
  unfold cost1
  rw [funcE_snd21, mfuncE_snd21, if_neg (fun hh => hh h)]
  rw [if_pos]
  by_cases h3 : endT (gB ⟨p, 0⟩).2 = 0
  · obtain ⟨f1, f2, f3⟩ := func_num21 ho h
    obtain ⟨g1, g2, g3, g4⟩ := mfunc_num21 hp h3
    rcases h2 with h2 | h2 | h2
    · exact absurd h3 h2
    · right; left; omega
    · right; right; rw [f1, g1]; exact h2
  · exact .inl h3

theorem cost1_3 {y : Nat} {o p q : List Nat} (ho : Byt o) (hp : Byt p) (h : endT (fB ⟨o, 0⟩).2 = 0) (h3 : endT (gB ⟨p, 0⟩).2 = 0) (h4 : fcB ⟨o, 0⟩ = gcB ⟨p, 0⟩) (h5 : (fA ⟨o, 0⟩).1 = (fA ⟨p, 0⟩).1) :
    cost1 y o p q = ⟨fcB ⟨o, 0⟩ + gcB ⟨p, 0⟩, fcI ⟨o, 0⟩ + gcI ⟨p, 0⟩, cP (fR' ⟨o, 0⟩).1 (fR' ⟨p, 0⟩).1 (gS ⟨p, 0⟩).1 (fcB ⟨o, 0⟩).toNat 0 ⟨q, 0⟩, y⟩ := by
  obtain ⟨f1, f2, f3⟩ := func_num21 ho h
  obtain ⟨g1, g2, g3, g4⟩ := mfunc_num21 hp h3
  unfold cost1
  rw [funcE_snd21, mfuncE_snd21, if_neg (fun hh => hh h), if_neg (by
    intro hh
    rcases hh with hh | hh | hh
    · exact hh h3
    · omega
    · rw [f1, g1] at hh; exact hh h5), f2, g2, g3, show (funcE ⟨o, 0⟩).1.bs.length = (fcB ⟨o, 0⟩).toNat by omega]

/-- What readContents carries. -/
structure RC21 (w : World) (q : Nat) (A : Option Addr) (c : Nat) (xs : List (List Nat)) (cs : Array Value) (W : World) : Prop where
  md : Mods (Is q) w W
  bx : Row W q 25 cs
  own : Lst w (q + 1) (.slice A xs.length c) xs
  qw : q < w.heap.size

section
variable {w W W' : World} {q : Nat} {A : Option Addr} {c : Nat} {xs : List (List Nat)} {cs cs' : Array Value}

theorem RC21.below (h : RC21 w q A c xs cs W) (hb : Below W.heap.size W W') : RC21 w q A c xs cs W' := ⟨h.md.trans (Mods.of_below hb), h.bx.below hb h.bx.lt, h.own, h.qw⟩

theorem RC21.alloc (h : RC21 w q A c xs cs W) (o : Obj) : RC21 w q A c xs cs (W.alloc o) := h.below ((Below.refl _ _).alloc (Nat.le_refl _) o)

theorem RC21.aside {p : Nat} (h : RC21 w q A c xs cs W) (hm : Mods (Is p) W W') (hp : w.heap.size ≤ p) : RC21 w q A c xs cs W' :=
  ⟨h.md.then hm fun k hk => .inr (by unfold Is at hk; omega), h.bx.mods hm (by have := h.qw; unfold Is; omega), h.own, h.qw⟩

/-- A cursor made since has been read. -/
theorem RC21.read {W1 W2 : World} {lo p : Nat} {l : List Nat} {A1 : Option Addr} {c1 : Nat} {t : Ip} (h : RC21 w q A c xs cs W) (hb : Below W.heap.size W W1) (hk : KC W1 lo p l A1 c1 t q cs' W2) (hp : W.heap.size ≤ p) : RC21 w q A c xs cs' W2 :=
  ⟨h.md.trans ((Mods.of_below hb).then hk.md fun k hk => by unfold Two at hk; unfold Is; omega), hk.bx, h.own, h.qw⟩

theorem RC21.lst (h : RC21 w q A c xs cs W) : Lst W (q + 1) (.slice A xs.length c) xs := h.own.mods h.md fun k h1 _ h3 => by unfold Is at h3; omega

theorem RC21.at_ (h : RC21 w q A c xs cs W) {i : Nat} (hi : i < xs.length) : ∃ b o Ai ci, A = some ⟨b, o, none⟩ ∧ W.cell? ⟨b, o + i, none⟩ = some (.slice Ai xs[i].length ci) ∧ Sees W W.heap.size Ai (bts xs[i]) := by
  obtain ⟨A1, c1, e, _, _, hs⟩ := h.lst.sees
  injection e with e1 _ _
  subst e1
  obtain ⟨b, o, Ai, ci, h1, _, h2, _, _, h3⟩ := hs.at_ hi
  exact ⟨b, o, Ai, ci, h1, h2, h3⟩

theorem RC21.at2 {b o : Nat} (h : RC21 w q (some ⟨b, o, none⟩) c xs cs W) {i : Nat} (hi : i < xs.length) : ∃ Ai ci, W.cell? ⟨b, o + i, none⟩ = some (.slice Ai xs[i].length ci) ∧ Sees W W.heap.size Ai (bts xs[i]) := by
  obtain ⟨b', o', Ai, ci, h1, h2, h3⟩ := h.at_ hi
  injection h1 with h1
  injection h1 with h4 h5 _
  subst h4 h5
  exact ⟨Ai, ci, h2, h3⟩

theorem RC21.row {x : Nat} {T : TypeId} {zs : Array Value} (h : RC21 w q A c xs cs W) (hr : Row w x T zs) (hx : x ≠ q) : Row W x T zs := hr.mods h.md (by unfold Is; omega)

theorem Row.read21 {W0 W1 W2 : World} {x : Nat} {T : TypeId} {zs : Array Value} (h : Row W0 x T zs) (hm : Mods (Is q) W0 W2) (hx : x ≠ q) : Row W2 x T zs := h.mods hm (by unfold Is; omega)

end

/-- The last cursor. -/
structure RC3 (w : World) (q : Nat) (x3 : List Nat) (cs : Array Value) (lo p3 : Nat) (A3 : Option Addr) (c3 : Nat) (W : World) : Prop where
  md : Mods (Is q) w W
  ce : CE lo p3 x3 A3 c3 ⟨x3, 0⟩ W
  bx : Row W q 25 cs
  ql : q < lo
  wp : w.heap.size ≤ p3

section
variable {w : World} {q : Nat} {x3 : List Nat} {cs : Array Value} {lo p3 : Nat} {A3 : Option Addr} {c3 : Nat} {W : World}

theorem RC3.drew (h : RC3 w q x3 cs lo p3 A3 c3 W) : RC3 w q x3 cs lo p3 A3 c3 W.drew := ⟨h.md.drew, h.ce.mods (S := No) (Mods.refl _ _).drew fun _ hk => hk.elim, h.bx, h.ql, h.wp⟩

theorem RC3.drewN (h : RC3 w q x3 cs lo p3 A3 c3 W) (n : Nat) : RC3 w q x3 cs lo p3 A3 c3 (W.drewN n) := ⟨h.md.drewN n, h.ce.mods (S := No) ((Mods.refl _ _).drewN n) fun _ hk => hk.elim, h.bx, h.ql, h.wp⟩

end

set_option maxRecDepth 100000 in
set_option maxHeartbeats 16000000 in
theorem dcont_any {w : World} {q : Nat} {A : Option Addr} {c : Nat} {x1 x2 x3 : List Nat} {y : Nat} (hl : Lst w (q + 1) (.slice A 3 c) [x1, x2, x3]) (hq : Row w q 25 (COS 0 0 0 y))
    (by1 : Byt x1) (by2 : Byt x2) (by3 : Byt x3) (l1 : x1.length ≤ 1000000) (l2 : x2.length ≤ 1000000) (l3 : x3.length ≤ 1000000) :
    Calls Try.prog 22 #[.slice A 3 c, .agg (ADD q)] w fun e w' => e = .returned (.tuple #[]) ∧ Mods (Is q) w w' ∧ Row w' q 25 (COS (cost1 y x1 x2 x3).b (cost1 y x1 x2 x3).i (cost1 y x1 x2 x3).p ((cost1 y x1 x2 x3).y : Nat)) := by
  obtain ⟨R, hR⟩ : ∃ R, cost1 y x1 x2 x3 = R := ⟨_, rfl⟩
  obtain ⟨a1, a2, a3, a4⟩ := fc_le (s := ⟨x1, 0⟩) by1
  obtain ⟨b1, b2, b3, b4⟩ := gc_le (s := ⟨x2, 0⟩) by2
  dsimp only at a3 a4 b3 b4
  have HR1 : Hid (endT (fB ⟨x1, 0⟩).2 ≠ 0 → R = ⟨fcB ⟨x1, 0⟩, fcI ⟨x1, 0⟩, 0, y⟩) := fun h => by rw [← hR, cost1_1 h]
  have HR2 : Hid (endT (fB ⟨x1, 0⟩).2 = 0 → endT (gB ⟨x2, 0⟩).2 ≠ 0 ∨ fcB ⟨x1, 0⟩ ≠ gcB ⟨x2, 0⟩ ∨ (fA ⟨x1, 0⟩).1 ≠ (fA ⟨x2, 0⟩).1 → R = ⟨fcB ⟨x1, 0⟩ + gcB ⟨x2, 0⟩, fcI ⟨x1, 0⟩ + gcI ⟨x2, 0⟩, 0, y⟩) := fun h h2 => by rw [← hR, cost1_2 by1 by2 h h2]
  have HR3 : Hid (endT (fB ⟨x1, 0⟩).2 = 0 → endT (gB ⟨x2, 0⟩).2 = 0 → fcB ⟨x1, 0⟩ = gcB ⟨x2, 0⟩ → (fA ⟨x1, 0⟩).1 = (fA ⟨x2, 0⟩).1 → R = ⟨fcB ⟨x1, 0⟩ + gcB ⟨x2, 0⟩, fcI ⟨x1, 0⟩ + gcI ⟨x2, 0⟩, cP (fR' ⟨x1, 0⟩).1 (fR' ⟨x2, 0⟩).1 (gS ⟨x2, 0⟩).1 (fcB ⟨x1, 0⟩).toNat 0 ⟨x3, 0⟩, y⟩) := fun h h2 h4 h5 => by rw [← hR, cost1_3 by1 by2 h h2 h4 h5]
  have rv : 0 ≤ (fR' ⟨x1, 0⟩).1 ∧ (fR' ⟨x1, 0⟩).1 ≤ 1048576 := sizeE_rng (s := (fA ⟨x1, 0⟩).2)
  have rr : 0 ≤ (fR' ⟨x2, 0⟩).1 ∧ (fR' ⟨x2, 0⟩).1 ≤ 1048576 := sizeE_rng (s := (fA ⟨x2, 0⟩).2)
  have rs : 0 ≤ (gS ⟨x2, 0⟩).1 ∧ (gS ⟨x2, 0⟩).1 ≤ 1048576 := sizeE_rng (s := (fR' ⟨x2, 0⟩).2)
  rw [hR]
  have BY1 := Lib.hid by1; have BY2 := Lib.hid by2; have BY3 := Lib.hid by3
  have hal : RC21 w q A c [x1, x2, x3] (COS 0 0 0 y) w := ⟨Mods.refl _ _, hq, hl, hq.lt⟩
  have H1 := Lib.hid (hal.alloc (.cells (ADD q) 50))
  have RA := Lib.hid (Row.new w 50 (ADD q))
  have hqw := hq.lt
  clear hR hal hl hq by1 by2 by3
  go_enter Try.func22, Try.ntmps22
  go_upto_region 1 with fail
  generalize (w.alloc (.cells (ADD q) 50)) = W1 at *
  have HM0 := Lib.hid H1.out.md
  have H1b : Hid (RC21 W1 q A c [x1, x2, x3] (COS 0 0 0 y) W1) := ⟨Mods.refl _ _, H1.out.bx, H1.out.lst, H1.out.bx.lt⟩
  obtain ⟨z3, hz3⟩ : ∃ z3, w.heap.size = z3 := ⟨_, rfl⟩
  rw [hz3] at RA hqw ⊢
  clear H1 hz3
  obtain ⟨b, o, Ai, ci, rfl, hc, hse⟩ := H1b.out.at_ (i := 0) (by simp)
  rw [Nat.add_zero] at hc
  have hc0 : W1.cell? ⟨b, o, none⟩ = some (.slice Ai x1.length ci) := hc
  have CN := Lib.hid (new_ce20 Ai x1 ci W1 hse BY1.out l1)
  clear hc hse
  go_wp2_with fail
  refine CN.out.mono ?_
  rintro e W2 ⟨p, A', c', rfl, hp, hce, hb⟩
  have HB2 := Lib.hid hb
  have HK2 : Hid (KC W2 W1.heap.size p x1 A' c' ⟨x1, 0⟩ q (COS 0 0 0 y) W2) := KC.start hce (H1b.out.bx.below hb H1b.out.bx.lt) H1b.out.bx.lt
  have HA2 := Lib.hid (RA.out.below hb RA.out.lt)
  have d0 : W2.cell? ⟨z3, 0, none⟩ = some (.func (.func 23) #[] #[.pointer (some ⟨q, 0, none⟩)]) := HA2.out.cell 0
  have d1 : W2.cell? ⟨z3, 1, none⟩ = some (.func (.func 24) #[] #[.pointer (some ⟨q, 0, none⟩)]) := HA2.out.cell 1
  have d2 : W2.cell? ⟨z3, 2, none⟩ = some (.func (.func 25) #[] #[.pointer (some ⟨q, 0, none⟩)]) := HA2.out.cell 2
  have CF := Lib.hid (dfunc_any HK2.out (by omega) (by omega) (by omega) (by omega))
  obtain ⟨fa, hfa⟩ : ∃ z, (fA ⟨x1, 0⟩).1 = z := ⟨_, rfl⟩
  obtain ⟨vr, hvr⟩ : ∃ z, (fR' ⟨x1, 0⟩).1 = z := ⟨_, rfl⟩
  obtain ⟨fb, hfb⟩ : ∃ z, fcB ⟨x1, 0⟩ = z := ⟨_, rfl⟩
  obtain ⟨fi, hfi⟩ : ∃ z, fcI ⟨x1, 0⟩ = z := ⟨_, rfl⟩
  obtain ⟨tf, htf⟩ : ∃ z, (fB ⟨x1, 0⟩).2 = z := ⟨_, rfl⟩
  rw [hfa] at CF HR2 HR3
  rw [hvr] at CF HR3 rv
  rw [hfb] at CF HR1 HR2 HR3 a1 a3
  rw [hfi] at CF HR1 HR2 HR3 a2 a4
  rw [htf] at CF HR1 HR2 HR3
  rw [Int.zero_add, Int.zero_add] at CF
  unfold ADD SZS at CF
  clear hfa hvr hfb hfi htf hce hb CN hc0
  go_wp2_with fail
  refine CF.out.mono ?_
  rintro e W3 ⟨rfl, hk⟩
  have HRC3 := Lib.hid (H1b.out.read HB2.out hk hp)
  have HC3 := Lib.hid hk.ce
  have hp3 := hk.ce.lt
  clear hk HK2 HA2 d0 d1 d2 CF HB2 BY1
  go_upto_region 3 with fail
  have HRC4 := Lib.hid (HRC3.out.alloc (.cells #[.int .i64 fa, .int .i64 vr, .int .i64 0, .int .i64 fb] 84))
  have HC4 := Lib.hid (HC3.out.alloc (.cells #[.int .i64 fa, .int .i64 vr, .int .i64 0, .int .i64 fb] 84))
  have HS5 := Lib.hid (Row.new W3 84 #[.int .i64 fa, .int .i64 vr, .int .i64 0, .int .i64 fb])
  have h5q : q < W3.heap.size := HRC3.out.bx.lt
  have hz3 : z3 < W1.heap.size := RA.out.lt
  generalize (W3.alloc (.cells #[.int .i64 fa, .int .i64 vr, .int .i64 0, .int .i64 fb] 84)) = W4 at *
  obtain ⟨z5, hz5⟩ : ∃ z5, W3.heap.size = z5 := ⟨_, rfl⟩
  rw [hz5] at HS5 h5q hp3 ⊢
  clear HRC3 HC3 hz5
  have CE1 := Lib.hid (end_ce20 HC4.out)
  go_wp2_with fail
  refine CE1.out.mono ?_
  rintro e W5 ⟨rfl, hm, hc⟩
  have HRC5 := Lib.hid (HRC4.out.aside hm hp)
  have HC5 := Lib.hid hc
  have HS5' := Lib.hid (HS5.out.mods hm (by unfold Is; omega))
  clear hm hc CE1 HC4 HRC4 HS5
  obtain ⟨e1, he1⟩ : ∃ z, endT tf = z := ⟨_, rfl⟩
  rw [he1] at HC5 HR1 HR2 HR3
  clear he1
  have CR := Lib.hid (err_ce HC5.out)
  dsimp only at CR
  by_cases h1 : e1 = 0
  case neg =>
    have d0 : (e1 != 0) = true := by simp [h1]
    have HE := Lib.hid (HR1.out h1)
    clear HR1 HR2 HR3 h1
    go_wp2_with fail
    refine CR.out.mono ?_
    rintro e W ⟨rfl, rfl⟩
    go_wp2
    refine bodyPost_ret (results_none rfl _ _ _) rfl ?_
    exact ⟨rfl, HM0.out.trans HRC5.out.md, by rw [HE.out]; exact HRC5.out.bx⟩
  have d0 : (e1 != 0) = false := by simp [h1]
  replace HR2 := Lib.hid (HR2.out h1)
  replace HR3 := Lib.hid (HR3.out h1)
  clear HR1 h1
  go_wp2_with fail
  refine CR.out.mono ?_
  rintro e W ⟨rfl, rfl⟩
  clear CR HC5
  obtain ⟨Ai2, ci2, hc, hse⟩ := HRC5.out.at2 (i := 1) (by simp)
  have hc1 : W5.cell? ⟨b, o + 1, none⟩ = some (.slice Ai2 x2.length ci2) := hc
  have CN := Lib.hid (new_ce20 Ai2 x2 ci2 W5 hse BY2.out l2)
  clear hc hse
  go_wp2_with fail
  clear d0
  refine CN.out.mono ?_
  rintro e W6 ⟨p2, A2', c2', rfl, hp2, hce, hb⟩
  have HB6 := Lib.hid hb
  have hq5 := HRC5.out.bx.lt
  have HK6 : Hid (KC W6 W5.heap.size p2 x2 A2' c2' ⟨x2, 0⟩ q (COS fb fi 0 y) W6) := KC.start hce (HRC5.out.bx.below hb hq5) hq5
  have HA6 := Lib.hid ((HRC5.out.row RA.out (by omega)).below hb (by have := HRC5.out.md.size; omega))
  have d0 : W6.cell? ⟨z3, 0, none⟩ = some (.func (.func 23) #[] #[.pointer (some ⟨q, 0, none⟩)]) := HA6.out.cell 0
  have d1 : W6.cell? ⟨z3, 1, none⟩ = some (.func (.func 24) #[] #[.pointer (some ⟨q, 0, none⟩)]) := HA6.out.cell 1
  have d2 : W6.cell? ⟨z3, 2, none⟩ = some (.func (.func 25) #[] #[.pointer (some ⟨q, 0, none⟩)]) := HA6.out.cell 2
  have CG := Lib.hid (dmfunc_any HK6.out (by omega) (by omega) (by omega) (by omega))
  obtain ⟨ga, hga⟩ : ∃ z, (fA ⟨x2, 0⟩).1 = z := ⟨_, rfl⟩
  obtain ⟨gr, hgr⟩ : ∃ z, (fR' ⟨x2, 0⟩).1 = z := ⟨_, rfl⟩
  obtain ⟨gs, hgs⟩ : ∃ z, (gS ⟨x2, 0⟩).1 = z := ⟨_, rfl⟩
  obtain ⟨gb, hgb⟩ : ∃ z, gcB ⟨x2, 0⟩ = z := ⟨_, rfl⟩
  obtain ⟨gi, hgi⟩ : ∃ z, gcI ⟨x2, 0⟩ = z := ⟨_, rfl⟩
  obtain ⟨tg, htg⟩ : ∃ z, (gB ⟨x2, 0⟩).2 = z := ⟨_, rfl⟩
  rw [hga] at CG HR2 HR3
  rw [hgr] at CG HR3 rr
  rw [hgs] at CG HR3 rs
  rw [hgb] at CG HR2 HR3 b1 b3
  rw [hgi] at CG HR2 HR3 b2 b4
  rw [htg] at CG HR2 HR3
  unfold ADD SZS at CG
  clear hga hgr hgs hgb hgi htg hce hb CN hc1
  go_wp2_with fail
  refine CG.out.mono ?_
  rintro e W7 ⟨rfl, hk⟩
  have HRC7 := Lib.hid (HRC5.out.read HB6.out hk hp2)
  have HM57 : Mods (Is q) W5 W7 := (Mods.of_below HB6.out).then hk.md fun k hk => by unfold Two at hk; unfold Is; omega
  have HS7 := Lib.hid (HS5'.out.mods HM57 (by unfold Is; omega))
  have HC7 := Lib.hid hk.ce
  have hp7 := hk.ce.lt
  have h5p : z5 < p2 := by have := HS5'.out.lt; omega
  clear hk HK6 HA6 d0 d1 d2 CG HB6 BY2 HRC5 HS5' HM57
  go_upto_region 7 with fail
  have HRC8 := Lib.hid (HRC7.out.alloc (.cells #[.int .i64 ga, .int .i64 gr, .int .i64 gs, .int .i64 gb] 84))
  have HC8 := Lib.hid (HC7.out.alloc (.cells #[.int .i64 ga, .int .i64 gr, .int .i64 gs, .int .i64 gb] 84))
  have HS8 := Lib.hid (HS7.out.alloc (.cells #[.int .i64 ga, .int .i64 gr, .int .i64 gs, .int .i64 gb] 84))
  have HT8 := Lib.hid (Row.new W7 84 #[.int .i64 ga, .int .i64 gr, .int .i64 gs, .int .i64 gb])
  have hw17 : W1.heap.size ≤ p2 := by have := HRC8.out.md.size; have := HC8.out.lop; have := HRC7.out.md.size; have := hq5; omega
  generalize (W7.alloc (.cells #[.int .i64 ga, .int .i64 gr, .int .i64 gs, .int .i64 gb] 84)) = W8 at *
  obtain ⟨z6, hz6⟩ : ∃ z6, W7.heap.size = z6 := ⟨_, rfl⟩
  rw [hz6] at HT8 hp7 ⊢
  clear HRC7 HC7 HS7 hz6
  have CE1 := Lib.hid (end_ce20 HC8.out)
  go_wp2_with fail
  refine CE1.out.mono ?_
  rintro e W9 ⟨rfl, hm, hc⟩
  have HRC9 := Lib.hid (HRC8.out.aside hm hw17)
  have HC9 := Lib.hid hc
  have HS9 := Lib.hid (HS8.out.mods hm (by unfold Is; omega))
  have HT9 := Lib.hid (HT8.out.mods hm (by unfold Is; omega))
  clear hm hc CE1 HC8 HRC8 HS8 HT8
  obtain ⟨e2, he2⟩ : ∃ z, endT tg = z := ⟨_, rfl⟩
  rw [he2] at HC9 HR2 HR3
  clear he2
  obtain ⟨bl, hbl⟩ : ∃ bl, decide (fb ≠ gb ∨ fa ≠ ga) = bl := ⟨_, rfl⟩
  have CF := Lib.hid (dfail_ce HC9.out bl 14 (by decide))
  obtain ⟨t3, ht3⟩ : ∃ t3, (if bl = true then failE 14 ⟨tg.rest, e2⟩ else (⟨tg.rest, e2⟩ : Ip)) = t3 := ⟨_, rfl⟩
  rw [ht3] at CF
  have HR2' : Hid (t3.err ≠ 0 → R = ⟨fb + gb, fi + gi, 0, y⟩) := fun h => HR2.out (by
    rw [← ht3] at h
    cases bl with
    | false => exact .inl h
    | true => exact .inr (of_decide_eq_true hbl))
  have HR3' : Hid (t3.err = 0 → fb = gb ∧ R = ⟨fb + gb, fi + gi, cP vr gr gs fb.toNat 0 ⟨x3, 0⟩, y⟩) := fun h => by
    rw [← ht3] at h
    cases bl with
    | false =>
      have hn := of_decide_eq_false hbl
      exact ⟨by omega, HR3.out h (by omega) (by omega)⟩
    | true => exact absurd h (failE_err (by decide))
  have HBL := Lib.hid hbl
  clear hbl ht3 HR2 HR3 HC9
  obtain ⟨W10, hW10⟩ : ∃ z, z = W9 := ⟨_, rfl⟩
  subst hW10
  go_upto_region 8 with fail
  have s0 := HS9.out.k0; have s3 := HS9.out.k3; have g0 := HT9.out.k0; have g3 := HT9.out.k3
  go_cut [] from 28 (fun wx => Hid (RC21 W1 q (some ⟨b, o, none⟩) c [x1, x2, x3] (COS (fb + gb) (fi + gi) 0 y) wx) ∧ Hid (CE W5.heap.size p2 x2 A2' c2' t3 wx) ∧ Hid (Row wx z5 84 #[.int .i64 fa, .int .i64 vr, .int .i64 0, .int .i64 fb]) ∧ Hid (Row wx z6 84 #[.int .i64 ga, .int .i64 gr, .int .i64 gs, .int .i64 gb]))
  case first =>
    by_cases q1 : fb = gb
    · have d1 : (fb != gb) = false := by simp [q1]
      have hb2 : Hid ((fa != ga) = bl) := by
        show _ = _
        rw [← HBL.out, Bool.eq_iff_iff]
        simp [q1]
      clear q1
      go_wp2_with fail
      rw [hb2.out]
      refine CF.out.mono ?_
      rintro e W11 ⟨rfl, hm, hc⟩
      have X1 := Lib.hid (HRC9.out.aside hm hw17)
      have X2 := Lib.hid hc
      have X3 := Lib.hid (HS9.out.mods hm (by unfold Is; omega))
      have X4 := Lib.hid (HT9.out.mods hm (by unfold Is; omega))
      clear hm hc
      go_wp2_with fail
      go_meet
      case rel => exact ⟨X1, X2, X3, X4⟩
    · have d1 : (fb != gb) = true := by simp [q1]
      have hb2 : Hid (true = bl) := by
        show _ = _
        rw [← HBL.out]
        simp [q1]
      clear q1
      rw [← hb2.out] at CF
      go_wp2_with fail
      refine CF.out.mono ?_
      rintro e W11 ⟨rfl, hm, hc⟩
      have X1 := Lib.hid (HRC9.out.aside hm hw17)
      have X2 := Lib.hid hc
      have X3 := Lib.hid (HS9.out.mods hm (by unfold Is; omega))
      have X4 := Lib.hid (HT9.out.mods hm (by unfold Is; omega))
      clear hm hc
      go_wp2_with fail
      go_meet
      case rel => exact ⟨X1, X2, X3, X4⟩
  case rest =>
    clear HRC9 HS9 HT9 s0 s3 g0 g3 CF HBL
    obtain ⟨HRC, HC, HS, HT⟩ := hcut
    have CR := Lib.hid (err_ce HC.out)
    obtain ⟨e3, he3⟩ : ∃ z, t3.err = z := ⟨_, rfl⟩
    rw [he3] at HR2' HR3' CR
    clear he3 HC
    by_cases h1 : e3 = 0
    case neg =>
      have d0 : (e3 != 0) = true := by simp [h1]
      have HE := Lib.hid (HR2'.out h1)
      clear HR2' HR3' h1
      go_wp2_with fail
      refine CR.out.mono ?_
      rintro e W ⟨rfl, rfl⟩
      go_wp2
      refine bodyPost_ret (results_none rfl _ _ _) rfl ?_
      exact ⟨rfl, HM0.out.trans HRC.out.md, by rw [HE.out]; exact HRC.out.bx⟩
    have d0 : (e3 != 0) = false := by simp [h1]
    obtain ⟨hfg, hRE⟩ := HR3'.out h1
    have hcp := cP_two (vr := vr) (r := gr) (n := gs) fb.toNat 0 ⟨x3, 0⟩ BY3.out
    dsimp only at hcp
    have HE := Lib.hid hRE
    clear HR2' HR3' h1 hRE hfg
    go_wp2_with fail
    refine CR.out.mono ?_
    rintro e W ⟨rfl, rfl⟩
    clear CR
    have he0 := d0
    clear d0
    have hfb : 0 ≤ fb ∧ fb ≤ 1048576 := by omega
    obtain ⟨Ai3, ci3, hc, hse⟩ := HRC.out.at2 (i := 2) (by simp)
    have hc2 : wc.cell? ⟨b, o + 2, none⟩ = some (.slice Ai3 x3.length ci3) := hc
    have HSE := Lib.hid hse
    have hS0 := HS.out.k0; have hS1 := HS.out.k1; have hS2 := HS.out.k2; have hS3 := HS.out.k3
    have hT0 := HT.out.k0; have hT1 := HT.out.k1; have hT2 := HT.out.k2; have hT3 := HT.out.k3
    have hA := HRC.out.row RA.out (by omega)
    have d0 : wc.cell? ⟨z3, 0, none⟩ = some (.func (.func 23) #[] #[.pointer (some ⟨q, 0, none⟩)]) := hA.cell 0
    have d1 : wc.cell? ⟨z3, 1, none⟩ = some (.func (.func 24) #[] #[.pointer (some ⟨q, 0, none⟩)]) := hA.cell 1
    have d2 : wc.cell? ⟨z3, 2, none⟩ = some (.func (.func 25) #[] #[.pointer (some ⟨q, 0, none⟩)]) := hA.cell 2
    have hzw : z3 < wc.heap.size := hA.lt
    have hbw : b < wc.heap.size := World.block_lt_of_cell? _ _ hc2
    have hbq : q + 1 ≤ b := by
      obtain ⟨vs, hv⟩ := HRC.out.lst
      exact (own_lt hv.outer b (by simp [Value.ownBlock])).1
    have CS : Hid (∀ W, Mods (Is q) wc W → W.cell? ⟨b, o + 2, none⟩ = some (.slice Ai3 x3.length ci3) ∧ W.cell? ⟨z5, 0, none⟩ = some (.int .i64 fa) ∧ W.cell? ⟨z5, 1, none⟩ = some (.int .i64 vr) ∧ W.cell? ⟨z5, 2, none⟩ = some (.int .i64 0) ∧ W.cell? ⟨z5, 3, none⟩ = some (.int .i64 fb) ∧ W.cell? ⟨z6, 0, none⟩ = some (.int .i64 ga) ∧ W.cell? ⟨z6, 1, none⟩ = some (.int .i64 gr) ∧ W.cell? ⟨z6, 2, none⟩ = some (.int .i64 gs) ∧ W.cell? ⟨z6, 3, none⟩ = some (.int .i64 gb) ∧ W.cell? ⟨z3, 0, none⟩ = some (.func (.func 23) #[] #[.pointer (some ⟨q, 0, none⟩)]) ∧ W.cell? ⟨z3, 1, none⟩ = some (.func (.func 24) #[] #[.pointer (some ⟨q, 0, none⟩)]) ∧ W.cell? ⟨z3, 2, none⟩ = some (.func (.func 25) #[] #[.pointer (some ⟨q, 0, none⟩)])) := fun W hb => by
      have hs := HS.out.mods hb (by unfold Is; omega)
      have ht := HT.out.mods hb (by unfold Is; omega)
      have ha := hA.mods hb (by unfold Is; omega)
      exact ⟨(hb.cell (p := ⟨b, o + 2, none⟩) hbw (by show ¬ b = q; omega)).trans hc2, hs.k0, hs.k1, hs.k2, hs.k3, ht.k0, ht.k1, ht.k2, ht.k3, ha.cell 0, ha.cell 1, ha.cell 2⟩
    have HX := Lib.hid (CS.out wc (Mods.refl _ _))
    have CN : Hid (∀ W, (∃ n, wc.drewN n = W) → Calls Try.prog 14 #[.slice Ai3 x3.length ci3] W fun e w' => ∃ lo p3 A3 c3, e = .returned (.pointer (some ⟨p3, 0, none⟩)) ∧ Below wc.heap.size wc w' ∧ RC3 wc q x3 (COS (fb + gb) (fi + gi) 0 y) lo p3 A3 c3 w') := fun W hW => by
      obtain ⟨n, rfl⟩ := hW
      refine (new_ce20 Ai3 x3 ci3 (wc.drewN n) HSE.out BY3.out l3).mono ?_
      rintro e w' ⟨p3, A3, c3, rfl, hp3, hce, hb⟩
      have hb' : Below wc.heap.size wc w' := below_unN hb (Nat.le_refl _)
      exact ⟨_, p3, A3, c3, rfl, hb', ⟨Mods.of_below hb', hce, HRC.out.bx.below hb' HRC.out.bx.lt, HRC.out.bx.lt, hp3⟩⟩
    have CI : Hid (∀ W lo p3 A3 c3, RC3 wc q x3 (COS (fb + gb) (fi + gi) 0 y) lo p3 A3 c3 W → Calls Try.prog 46 #[.pointer (some ⟨p3, 0, none⟩), .agg #[.int .i64 fa, .int .i64 vr, .int .i64 0, .int .i64 fb], .agg #[.int .i64 ga, .int .i64 gr, .int .i64 gs, .int .i64 gb], .agg (ADD q)] W fun e w' => e = .returned (.tuple #[]) ∧ Mods (Is q) wc w' ∧ Row w' q 25 (COS R.b R.i R.p (R.y : Nat))) := fun W lo p3 A3 c3 h => by
      refine (dinvs_any (KC.start h.ce h.bx h.ql) fa vr 0 ga gr gs gb fb rv rr rs hfb (by decide) (by omega)).mono ?_
      rintro e w' ⟨rfl, t, hk⟩
      refine ⟨rfl, h.md.then hk.md fun k hk => ?_, ?_⟩
      · rcases hk with hk | hk
        · exact .inr (by have := h.wp; omega)
        · exact .inl hk
      · rw [HE.out]
        have := hk.bx
        rw [Int.zero_add] at this
        exact this
    unfold ADD at CI
    clear hc hse hS0 hS1 hS2 hS3 hT0 hT1 hT2 hT3 d0 d1 d2 hA hc2 HSE
    go_wp2_with fail
    go_region_held3 (fun W => W.cell? ⟨b, o + 2, none⟩ = some (.slice Ai3 x3.length ci3) ∧ W.cell? ⟨z5, 0, none⟩ = some (.int .i64 fa) ∧ W.cell? ⟨z5, 1, none⟩ = some (.int .i64 vr) ∧ W.cell? ⟨z5, 2, none⟩ = some (.int .i64 0) ∧ W.cell? ⟨z5, 3, none⟩ = some (.int .i64 fb) ∧ W.cell? ⟨z6, 0, none⟩ = some (.int .i64 ga) ∧ W.cell? ⟨z6, 1, none⟩ = some (.int .i64 gr) ∧ W.cell? ⟨z6, 2, none⟩ = some (.int .i64 gs) ∧ W.cell? ⟨z6, 3, none⟩ = some (.int .i64 gb) ∧ W.cell? ⟨z3, 0, none⟩ = some (.func (.func 23) #[] #[.pointer (some ⟨q, 0, none⟩)]) ∧ W.cell? ⟨z3, 1, none⟩ = some (.func (.func 24) #[] #[.pointer (some ⟨q, 0, none⟩)]) ∧ W.cell? ⟨z3, 2, none⟩ = some (.func (.func 25) #[] #[.pointer (some ⟨q, 0, none⟩)])) (first | exact HX.out | exact hXa) (first
      | (go_at_call 14; go_must ((refine (CN.out _ (by first | exact ⟨1, rfl⟩ | exact ⟨0, rfl⟩ | exact ⟨_, rfl⟩)).mono ?_); rintro e Wa ⟨lo3, p3, A3, c3, rfl, hb, hr3⟩; have hXa := CS.out Wa (Mods.of_below hb); clear hb))
      | (go_at_call 46; go_must ((refine (CI.out _ _ _ _ _ (by first | exact hr3 | exact hr3.drew | exact hr3.drewN _)).mono ?_); rintro e Wb ⟨rfl, hm, hr⟩; have HM9 := Lib.hid hm; have HR9 := Lib.hid hr; have hXa := CS.out Wb hm; clear hm hr)))
    go_wp2
    go_end0
    exact ⟨rfl, HM0.out.trans (HRC.out.md.trans HM9.out), HR9.out⟩

end Go.Proofs.Ytkapmfopfddmbaa
