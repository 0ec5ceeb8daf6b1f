/-
  The walk of FunccodeMatchesReference (made by wip/lab/genfclawm.py).
-/
import Derived.Test.YtmmdhhjpbolkhaaFcAwake
import Derived.Test.YtmmdhhjpbolkhaaFcFunc
import Derived.Test.YtmmdhhjpbolkhaaFcMfn
import Derived.Test.YtmmdhhjpbolkhaaFcFx
import Derived.Test.YtmmdhhjpbolkhaaSmMac
import Derived.Deep.RegionHeld3
import Derived.Deep.DeepMust
import Derived.BigQuiet
namespace Go.Proofs.Ytmmdhhjpbolkhaa
open Go.RowKit
set_option linter.unusedVariables false
set_option linter.unusedSimpArgs false

theorem funcE_sm {l : List Nat} (hby : Byt l) (hl : l.length ≤ 2000) {f : Fd} {t : Ip} (h : funcE ⟨l, 0⟩ = (f, t)) : f.bs.length ≤ 1000 ∧ codeN f.bs ≤ 1000000 := by
  by_cases he : t.err = 0
  · have hok := funcE_ok (s := ⟨l, 0⟩) hby (by rw [h]; exact he)
    rw [h] at hok
    obtain ⟨_, _, _, k3, _, _, _⟩ := hok
    have k4 : l = encF' f ++ t.rest := k3
    have := encF_small (f := f) (n := 2000) (by have := congrArg List.length k4; rw [List.length_append] at this; omega)
    omega
  · have hb : ¬ (fB ⟨l, 0⟩).2.err = 0 := fun h9 => by
      unfold funcE at h
      rw [if_neg (fun hh => hh h9)] at h
      have := congrArg (fun x => x.2.err) h
      dsimp only at this
      omega
    unfold funcE at h
    rw [if_pos hb] at h
    have := congrArg (fun x => x.1.bs) h
    dsimp only at this
    rw [← this]
    exact ⟨Nat.zero_le _, Nat.zero_le _⟩

theorem mfuncE_sm {l : List Nat} (hby : Byt l) (hl : l.length ≤ 2000) {g : Gd} {t : Ip} (h : mfuncE ⟨l, 0⟩ = (g, t)) : g.ms.length ≤ 1000 ∧ mcodeN g.ms ≤ 1000000 ∧ ∀ x ∈ g.ms, ∀ y ∈ x.code, y.Ok := by
  by_cases he : t.err = 0
  · have hok := mfuncE_ok (s := ⟨l, 0⟩) hby (by rw [h]; exact he)
    rw [h] at hok
    obtain ⟨_, k1, _, k3, _, _, _, _⟩ := hok
    have k4 : l = encG g ++ t.rest := k3
    have := encG_small (g := g) (n := 2000) (by have := congrArg List.length k4; rw [List.length_append] at this; omega)
    exact ⟨by omega, by omega, eMF_ok18 k1⟩
  · have hb : ¬ (gB ⟨l, 0⟩).2.err = 0 := fun h9 => by
      unfold mfuncE at h
      rw [if_neg (fun hh => hh h9)] at h
      have := congrArg (fun x => x.2.err) h
      dsimp only at this
      omega
    unfold mfuncE at h
    rw [if_pos hb] at h
    have := congrArg (fun x => x.1.ms) h
    dsimp only at this
    rw [← this]
    exact ⟨Nat.zero_le _, Nat.zero_le _, fun x hx => by cases hx⟩

/-- What the walk carries once both functions have been read. -/
structure MQ (w : World) (l : List Nat) (lo1 p1 : Nat) (A1 : Option Addr) (k1 i1 : Nat) (t : Ip) (lo2 p2 : Nat) (A2 : Option Addr) (k2 i2 : Nat) (u : Ip) (xf : Nat) (f : Fd) (Af : Option Addr) (cf : Nat) (xg : Nat) (g : Gd) (Ag : Option Addr) (cg : Nat) (W : World) : Prop where
  blw : Below w.heap.size w W
  c1 : Cur W lo1 p1 l i1 t.err A1 k1
  c2 : Cur W lo2 p2 l i2 u.err A2 k2
  f : FX xf f Af cf W
  g : GX' xg g Ag cg W

theorem MQ.next {w : World} {l : List Nat} {lo1 p1 : Nat} {A1 : Option Addr} {k1 i1 : Nat} {t : Ip} {lo2 p2 : Nat} {A2 : Option Addr} {k2 i2 : Nat} {u : Ip} {xf : Nat} {f : Fd} {Af : Option Addr} {cf : Nat} {xg : Nat} {g : Gd} {Ag : Option Addr} {cg : Nat} {W W' : World} (h : MQ w l lo1 p1 A1 k1 i1 t lo2 p2 A2 k2 i2 u xf f Af cf xg g Ag cg W) (hb : Below W.heap.size W W') : MQ w l lo1 p1 A1 k1 i1 t lo2 p2 A2 k2 i2 u xf f Af cf xg g Ag cg W' :=
  ⟨h.blw.trans (hb.mono h.blw.size), h.c1.mods (S := No) (Mods.of_below hb) fun _ h => h.elim, h.c2.mods (S := No) (Mods.of_below hb) fun _ h => h.elim, h.f.next hb, h.g.next hb⟩

/-- What the last region holds. -/
structure MZ (w : World) (l : List Nat) (lo1 p1 : Nat) (A1 : Option Addr) (k1 i1 : Nat) (t : Ip) (lo2 p2 : Nat) (A2 : Option Addr) (k2 i2 : Nat) (u : Ip) (xf : Nat) (f : Fd) (Af : Option Addr) (cf : Nat) (xg : Nat) (g : Gd) (Ag : Option Addr) (cg : Nat) (xp : Nat) (Ap : Option Addr) (cp : Nat) (As : Option Addr) (cs : Nat) (xq : Nat) (Aq : Option Addr) (cq : Nat) (Au : Option Addr) (cu : Nat) (W : World) : Prop where
  q : MQ w l lo1 p1 A1 k1 i1 t lo2 p2 A2 k2 i2 u xf f Af cf xg g Ag cg W
  p : FX xp f Ap cp W
  s : Row W (xp + 1) 27 #[.slice As t.rest.length cs, .int .i64 t.err]
  qq : GX' xq g Aq cq W
  u : Row W (xq + 1) 27 #[.slice Au u.rest.length cu, .int .i64 u.err]

theorem MZ.next {w : World} {l : List Nat} {lo1 p1 : Nat} {A1 : Option Addr} {k1 i1 : Nat} {t : Ip} {lo2 p2 : Nat} {A2 : Option Addr} {k2 i2 : Nat} {u : Ip} {xf : Nat} {f : Fd} {Af : Option Addr} {cf : Nat} {xg : Nat} {g : Gd} {Ag : Option Addr} {cg : Nat} {xp : Nat} {Ap : Option Addr} {cp : Nat} {As : Option Addr} {cs : Nat} {xq : Nat} {Aq : Option Addr} {cq : Nat} {Au : Option Addr} {cu : Nat} {W W' : World} (h : MZ w l lo1 p1 A1 k1 i1 t lo2 p2 A2 k2 i2 u xf f Af cf xg g Ag cg xp Ap cp As cs xq Aq cq Au cu W) (hb : Below W.heap.size W W') : MZ w l lo1 p1 A1 k1 i1 t lo2 p2 A2 k2 i2 u xf f Af cf xg g Ag cg xp Ap cp As cs xq Aq cq Au cu W' :=
  ⟨h.q.next hb, h.p.next hb, h.s.below hb h.s.lt, h.qq.next hb, h.u.below hb h.u.lt⟩

theorem MZ.drewN {w : World} {l : List Nat} {lo1 p1 : Nat} {A1 : Option Addr} {k1 i1 : Nat} {t : Ip} {lo2 p2 : Nat} {A2 : Option Addr} {k2 i2 : Nat} {u : Ip} {xf : Nat} {f : Fd} {Af : Option Addr} {cf : Nat} {xg : Nat} {g : Gd} {Ag : Option Addr} {cg : Nat} {xp : Nat} {Ap : Option Addr} {cp : Nat} {As : Option Addr} {cs : Nat} {xq : Nat} {Aq : Option Addr} {cq : Nat} {Au : Option Addr} {cu : Nat} {W : World} (h : MZ w l lo1 p1 A1 k1 i1 t lo2 p2 A2 k2 i2 u xf f Af cf xg g Ag cg xp Ap cp As cs xq Aq cq Au cu W) (n : Nat) : MZ w l lo1 p1 A1 k1 i1 t lo2 p2 A2 k2 i2 u xf f Af cf xg g Ag cg xp Ap cp As cs xq Aq cq Au cu (W.drewN n) :=
  h.next (let b := Below.refl W.heap.size W; ⟨b.os, b.tape, b.output, b.size, b.block⟩)

theorem MZ.drew {w : World} {l : List Nat} {lo1 p1 : Nat} {A1 : Option Addr} {k1 i1 : Nat} {t : Ip} {lo2 p2 : Nat} {A2 : Option Addr} {k2 i2 : Nat} {u : Ip} {xf : Nat} {f : Fd} {Af : Option Addr} {cf : Nat} {xg : Nat} {g : Gd} {Ag : Option Addr} {cg : Nat} {xp : Nat} {Ap : Option Addr} {cp : Nat} {As : Option Addr} {cs : Nat} {xq : Nat} {Aq : Option Addr} {cq : Nat} {Au : Option Addr} {cu : Nat} {W : World} (h : MZ w l lo1 p1 A1 k1 i1 t lo2 p2 A2 k2 i2 u xf f Af cf xg g Ag cg xp Ap cp As cs xq Aq cq Au cu W) : MZ w l lo1 p1 A1 k1 i1 t lo2 p2 A2 k2 i2 u xf f Af cf xg g Ag cg xp Ap cp As cs xq Aq cq Au cu W.drew :=
  h.next (let b := Below.refl W.heap.size W; ⟨b.os, b.tape, b.output, b.size, b.block⟩)

theorem MZ.cells {w : World} {l : List Nat} {lo1 p1 : Nat} {A1 : Option Addr} {k1 i1 : Nat} {t : Ip} {lo2 p2 : Nat} {A2 : Option Addr} {k2 i2 : Nat} {u : Ip} {xf : Nat} {f : Fd} {Af : Option Addr} {cf : Nat} {xg : Nat} {g : Gd} {Ag : Option Addr} {cg : Nat} {xp : Nat} {Ap : Option Addr} {cp : Nat} {As : Option Addr} {cs : Nat} {xq : Nat} {Aq : Option Addr} {cq : Nat} {Au : Option Addr} {cu : Nat} {W : World} (h : MZ w l lo1 p1 A1 k1 i1 t lo2 p2 A2 k2 i2 u xf f Af cf xg g Ag cg xp Ap cp As cs xq Aq cq Au cu W) : W.cell? ⟨xf, 0, none⟩ = some (.int .i64 f.args) ∧ W.cell? ⟨xf, 1, none⟩ = some (.int .i64 f.regs) ∧ W.cell? ⟨xf, 2, none⟩ = some (.slice Af f.bs.length cf) ∧ W.cell? ⟨xp, 0, none⟩ = some (.int .i64 f.args) ∧ W.cell? ⟨xp, 1, none⟩ = some (.int .i64 f.regs) ∧ W.cell? ⟨xp, 2, none⟩ = some (.slice Ap f.bs.length cp) ∧ W.cell? ⟨xp + 1, 0, none⟩ = some (.slice As t.rest.length cs) ∧ W.cell? ⟨xp + 1, 1, none⟩ = some (.int .i64 t.err) ∧ W.cell? ⟨xg, 0, none⟩ = some (.int .i64 g.args) ∧ W.cell? ⟨xg, 1, none⟩ = some (.int .i64 g.regs) ∧ W.cell? ⟨xg, 2, none⟩ = some (.int .i64 g.slots) ∧ W.cell? ⟨xg, 3, none⟩ = some (.slice Ag g.ms.length cg) ∧ W.cell? ⟨xq, 0, none⟩ = some (.int .i64 g.args) ∧ W.cell? ⟨xq, 1, none⟩ = some (.int .i64 g.regs) ∧ W.cell? ⟨xq, 2, none⟩ = some (.int .i64 g.slots) ∧ W.cell? ⟨xq, 3, none⟩ = some (.slice Aq g.ms.length cq) ∧ W.cell? ⟨xq + 1, 0, none⟩ = some (.slice Au u.rest.length cu) ∧ W.cell? ⟨xq + 1, 1, none⟩ = some (.int .i64 u.err) :=
  ⟨h.q.f.row.cell 0, h.q.f.row.cell 1, h.q.f.row.cell 2, h.p.row.cell 0, h.p.row.cell 1, h.p.row.cell 2, h.s.cell 0, h.s.cell 1, h.q.g.row.cell 0, h.q.g.row.cell 1, h.q.g.row.cell 2, h.q.g.row.cell 3, h.qq.row.cell 0, h.qq.row.cell 1, h.qq.row.cell 2, h.qq.row.cell 3, h.u.cell 0, h.u.cell 1⟩

set_option maxRecDepth 100000 in
set_option maxHeartbeats 8000000 in
theorem FunccodeMatchesReference_walk (a0 : Option Addr) (len0 cap0 : Nat) (z0 : List Int) (w : World) (w0 : IsRow .u8 w a0 len0 cap0 z0) :
    Calls Try.prog 3 #[.slice a0 len0 cap0] w fun e w' => e = .returned (.bool true) ∧ Below w.heap.size w w' := by
  obtain ⟨l, rfl, hby, hs, hlc, hcm⟩ := w0.bytes
  clear w0
  by_cases hlong : 2000 < l.length
  · go_enter Try.func3, Try.ntmps3
    go_wp2_with fail
    refine (awake18_any _).mono ?_
    rintro e W ⟨rfl, hb⟩
    go_wp2_with fail
    refine (awake18_any _).mono ?_
    rintro e W' ⟨rfl, hb'⟩
    go_wp2
    go_ret
    exact ⟨rfl, hb.trans (hb'.mono hb.size)⟩
  · have hlt : ¬ (2000 : Int) < l.length := by omega
    obtain ⟨i0, hi, hz0, hz1, hz2⟩ := info_parts infoU8
    obtain ⟨⟨f, t⟩, hF⟩ : ∃ y, funcE ⟨l, 0⟩ = y := ⟨_, rfl⟩
    obtain ⟨⟨g, u⟩, hG⟩ : ∃ y, mfuncE ⟨l, 0⟩ = y := ⟨_, rfl⟩
    have HSF := Lib.hid (funcE_sm hby (by omega) hF)
    have HSG := Lib.hid (mfuncE_sm hby (by omega) hG)
    have EF := Lib.hid hF
    have EG := Lib.hid hG
    clear hF hG
    go_enter Try.func3, Try.ntmps3
    go_wp2_with fail
    refine (awake18_any _).mono ?_
    rintro e W1 ⟨rfl, hb⟩
    have HB1 := Lib.hid hb
    have hs1 := Lib.hid (hs.below hb)
    clear hb
    go_wp2_with fail
    refine (new_any _ l w.heap.size _ W1 hs1.out HB1.out.size hby (by omega)).mono ?_
    rintro e W2 ⟨p1, A1, k1, rfl, hp1, hc1, hb1⟩
    have HB2 := Lib.hid (HB1.out.trans (hb1.mono HB1.out.size))
    have hs2 := Lib.hid (hs1.out.below (hb1.mono HB1.out.size))
    have HC1 := Lib.hid hc1
    have HP1 := Lib.hid (show w.heap.size ≤ p1 ∧ p1 < W2.heap.size from ⟨by have := HB1.out.size; omega, hc1.row.lt⟩)
    clear hp1 hc1 hb1 HB1 hs1
    go_wp2_with fail
    refine (new_any _ l w.heap.size _ W2 hs2.out HB2.out.size hby (by omega)).mono ?_
    rintro e W3 ⟨p2, A2, k2, rfl, hp2, hc2, hb2⟩
    have HB3 := Lib.hid (HB2.out.trans (hb2.mono HB2.out.size))
    have hs3 := Lib.hid ((hs2.out.below (hb2.mono HB2.out.size)).more HB3.out.size)
    have D1 := Lib.hid (HC1.out.mods (S := No) (Mods.of_below hb2) fun _ h => h.elim)
    have D2 := Lib.hid hc2
    have HP2 := Lib.hid (show W2.heap.size ≤ p2 ∧ p2 < W3.heap.size from ⟨hp2, hc2.row.lt⟩)
    clear hp2 hc2 hb2 HB2 hs2 HC1
    have hs5 := hs3.out
    go_wp2_with (at_builtin; refine wpList_append_sees _ rfl (.tmp 30) (.tmp 31) 22 rfl W3.heap.size 5 i0 (.int .u8 0) 1 Try.underlying22 hi hz0 hz1 hz2 rfl _ _ _ rfl (World.ownsRow_made W3 #[] 0 (Nat.le_refl _) (by decide) rfl) W3.heap.size _ _ _ (bts l) rfl (hs5.alloc (Nat.le_refl _) _) (bts_length _) (bts_one _) ?c1 ?c2 ?c3 ?_)
    case c1 => unfold maxLen; omega
    case c2 => omega
    case c3 => simp
    intro va W5 ho5 hg5
    have hb5 : Below W3.heap.size W3 W5 := ((Below.refl _ _).alloc (Nat.le_refl _) _).grown hg5 (by simp) (fun k hk => by simp [Value.ownBlock] at hk; omega)
    replace ho5 : W5.ownsRow W3.heap.size 5 1 va l.length (bts l) := by simpa using ho5
    obtain ⟨A5, c5, rfl, hc5a, hc5b⟩ := own_slice ho5 (bts_length _)
    have HIV : Hid (IpV W5 W5.heap.size A5 c5 ⟨l, 0⟩) := ⟨Sees.of_own ho5, hc5a, hc5b, hby, by show l.length ≤ 100000; omega⟩
    have HA5 : Hid (∀ x, A5 = some x → W3.heap.size ≤ x.block) := fun x hx => (own_lt ho5 x.block (by rw [hx]; rfl)).1
    have HZ5 := Lib.hid hb5.size
    have hba := (Below.refl W5.heap.size W5).alloc (Nat.le_refl _) (.cells #[.slice A5 l.length c5, .int .i64 0] 27)
    have hb6 := hb5.trans (hba.mono hb5.size)
    have HB6 := Lib.hid (HB3.out.trans (hb6.mono HB3.out.size))
    have E1 := Lib.hid (D1.out.mods (S := No) (Mods.of_below hb6) fun _ h => h.elim)
    have E2 := Lib.hid (D2.out.mods (S := No) (Mods.of_below hb6) fun _ h => h.elim)
    have HI6 := Lib.hid (HIV.out.see.below hba)
    have HIV' := Lib.hid (show l.length ≤ c5 ∧ c5 ≤ maxLen from ⟨hc5a, hc5b⟩)
    have RI6 := Lib.hid (Row.new W5 27 #[.slice A5 l.length c5, .int .i64 0])
    have HZ6 : Hid (W5.heap.size < (W5.alloc (.cells #[.slice A5 l.length c5, .int .i64 0] 27)).heap.size) := RI6.out.lt
    clear hs5 hs3 ho5 hg5 hb5 hba hb6 HB3 D1 D2 hi hz0 hz1 hz2 hc5a hc5b hs HIV
    go_upto_region 8 with fail
    generalize (W5.alloc (.cells #[.slice A5 l.length c5, .int .i64 0] 27)) = W6 at *
    have C1 := Lib.hid (pfunc_any E1.out (f := f) (t := t) (by rw [List.drop_zero]; exact EF.out))
    go_wp2_with fail
    refine C1.out.mono ?_
    rintro e W7 ⟨v, vs, rfl, hn, hm, i1, hc, hd⟩
    obtain ⟨Af, cf, rfl, _, _, _⟩ := nest_blks hn
    have ha := (Mods.refl No W7).alloc (.cells #[.int .i64 f.args, .int .i64 f.regs, .slice Af f.bs.length cf] 30)
    have hbm := hm.below HB6.out.size (fun k hk => by unfold Is at hk; have := HP1.out; omega)
    have HB7 := Lib.hid ((HB6.out.trans hbm).alloc (Nat.le_trans HB6.out.size hm.size) (.cells #[.int .i64 f.args, .int .i64 f.regs, .slice Af f.bs.length cf] 30))
    have F1 := Lib.hid (hc.mods ha fun _ h => h.elim)
    have F2 := Lib.hid ((E2.out.mods hm fun k hk => by unfold Is at hk; have := HP1.out; omega).mods ha fun _ h => h.elim)
    have HN7 := Lib.hid (hn.mods ha fun _ _ _ h => h)
    have RF7 := Lib.hid (Row.new W7 30 #[.int .i64 f.args, .int .i64 f.regs, .slice Af f.bs.length cf])
    have RI7 := Lib.hid ((RI6.out.mods hm fun h => by unfold Is at h; have := HP1.out; have := HP2.out; have := HZ5.out; omega).mods ha fun h => h.elim)
    have HI7 := Lib.hid (ha.sees (hm.sees HI6.out (Nat.le_of_lt HZ6.out) fun x hx h => by unfold Is at h; have := HA5.out x hx; have := HP1.out; have := HP2.out; omega) (Nat.le_trans (Nat.le_of_lt HZ6.out) hm.size) fun _ _ h => h)
    have HD1 := Lib.hid hd
    have HQ7 := Lib.hid hm.size
    clear ha hbm hn hm hc hd C1 E1 E2 HB6 RI6 HI6
    go_upto_region 9 with fail
    have HZ7 : Hid (W7.heap.size < (W7.alloc (.cells #[.int .i64 f.args, .int .i64 f.regs, .slice Af f.bs.length cf] 30)).heap.size) := RF7.out.lt
    generalize (W7.alloc (.cells #[.int .i64 f.args, .int .i64 f.regs, .slice Af f.bs.length cf] 30)) = V7 at *
    have C2 := Lib.hid (pmfunc_any F2.out (g := g) (t := u) (by rw [List.drop_zero]; exact EG.out))
    go_wp2_with fail
    refine C2.out.mono ?_
    rintro e W8 ⟨v, vg, rfl, hn, hm, i2, hc, hd⟩
    obtain ⟨Ag, cg, hv, _, _⟩ := ownS_slice hn.outer
    rw [hn.len] at hv
    subst hv
    have ha := (Mods.refl No W8).alloc (.cells #[.int .i64 g.args, .int .i64 g.regs, .int .i64 g.slots, .slice Ag g.ms.length cg] 34)
    have hbm := hm.below HB7.out.size (fun k hk => by unfold Is at hk; have := HP1.out; have := HP2.out; omega)
    have HMQ : Hid (MQ w l W1.heap.size p1 A1 k1 i1 t W2.heap.size p2 A2 k2 i2 u W7.heap.size f Af cf W8.heap.size g Ag cg (W8.alloc (.cells #[.int .i64 g.args, .int .i64 g.regs, .int .i64 g.slots, .slice Ag g.ms.length cg] 34))) :=
      ⟨(HB7.out.trans hbm).alloc (Nat.le_trans HB7.out.size hm.size) _,
        (F1.out.mods hm fun k hk => by unfold Is at hk; have := HP1.out; have := HP2.out; omega).mods ha fun _ h => h.elim,
        hc.mods ha fun _ h => h.elim,
        ⟨(RF7.out.mods hm fun h => by unfold Is at h; have := HP2.out; have := HZ5.out; have := HZ6.out; have := HQ7.out; omega).mods ha fun h => h.elim, _, _, (HN7.out.mods hm fun k h1 _ h2 => by unfold Is at h2; have := HP2.out; have := HZ5.out; have := HZ6.out; omega).mods ha fun _ _ _ h => h⟩,
        ⟨Row.new W8 _ _, _, _, hn.mods ha fun _ _ _ h => h⟩⟩
    have RI8 := Lib.hid ((RI7.out.mods hm fun h => by unfold Is at h; have := HP2.out; have := HZ5.out; omega).mods ha fun h => h.elim)
    have HI8 := Lib.hid (ha.sees (hm.sees HI7.out (by have := HZ6.out; have := HQ7.out; have := HZ7.out; omega) fun x hx h => by unfold Is at h; have := HA5.out x hx; have := HP2.out; omega) (by have := HZ6.out; have := HQ7.out; have := HZ7.out; have := hm.size; omega) fun _ _ h => h)
    have HD2 := Lib.hid hd
    have HZ8 := Lib.hid (show V7.heap.size ≤ W8.heap.size from hm.size)
    have HZ9 : Hid (W8.heap.size < (W8.alloc (.cells #[.int .i64 g.args, .int .i64 g.regs, .int .i64 g.slots, .slice Ag g.ms.length cg] 34)).heap.size) := HMQ.out.g.row.lt
    clear ha hbm hn hm hc hd C2 F1 F2 HN7 RF7 RI7 HI7 HB7
    go_upto_region 10 with fail
    generalize (W8.alloc (.cells #[.int .i64 g.args, .int .i64 g.regs, .int .i64 g.slots, .slice Ag g.ms.length cg] 34)) = V8 at *
    have HBQ : Hid (W5.heap.size ≤ V8.heap.size) := by show _ ≤ _; have := HZ6.out; have := HQ7.out; have := HZ7.out; have := HZ8.out; have := HZ9.out; omega
    have HIV : Hid (IpV V8 W5.heap.size A5 c5 ⟨l, 0⟩) := ⟨HI8.out, HIV'.out.1, HIV'.out.2, hby, by show l.length ≤ 100000; omega⟩
    have C3 := Lib.hid (rfunc18_any HIV.out HBQ.out)
    rw [EF.out] at C3
    have q0 := RI8.out.cell 0; have q1 := RI8.out.cell 1
    simp only [List.getElem?_toArray, List.getElem?_cons_zero, List.getElem?_cons_succ] at q0 q1
    clear HI8 HZ5 HZ6 HQ7 HZ7 HZ8 HZ9 HA5 HP1 HP2 HIV'
    go_wp2_with fail
    refine C3.out.mono ?_
    rintro e W9 ⟨v, vp, As, cs, rfl, hn, hip, hb⟩
    obtain ⟨Ap, cp, rfl, _, _, _⟩ := nest_blks hn
    have hb' := (hb.alloc hb.size (.cells #[.int .i64 f.args, .int .i64 f.regs, .slice Ap f.bs.length cp] 30)).alloc (by simp; have := hb.size; omega) (.cells #[.slice As t.rest.length cs, .int .i64 t.err] 27)
    have ha2 : Below W9.heap.size W9 ((W9.alloc (.cells #[.int .i64 f.args, .int .i64 f.regs, .slice Ap f.bs.length cp] 30)).alloc (.cells #[.slice As t.rest.length cs, .int .i64 t.err] 27)) := ((Below.refl _ _).alloc (Nat.le_refl _) _).alloc (by simp) _
    have HMQ9 := Lib.hid (HMQ.out.next hb')
    have RI9 := Lib.hid (RI8.out.below hb' RI8.out.lt)
    have HIV9 : Hid (IpV ((W9.alloc (.cells #[.int .i64 f.args, .int .i64 f.regs, .slice Ap f.bs.length cp] 30)).alloc (.cells #[.slice As t.rest.length cs, .int .i64 t.err] 27)) W5.heap.size A5 c5 ⟨l, 0⟩) := HIV.out.below (hb'.mono HBQ.out)
    have HP9 : Hid (FX W9.heap.size f Ap cp ((W9.alloc (.cells #[.int .i64 f.args, .int .i64 f.regs, .slice Ap f.bs.length cp] 30)).alloc (.cells #[.slice As t.rest.length cs, .int .i64 t.err] 27))) := ⟨(Row.new W9 _ _).alloc _, _, _, hn.below ha2⟩
    have RS9 := Lib.hid (Row.new' (W := W9.alloc (.cells #[.int .i64 f.args, .int .i64 f.regs, .slice Ap f.bs.length cp] 30)) (p := W9.heap.size + 1) (by simp) 27 #[.slice As t.rest.length cs, .int .i64 t.err])
    have HBQ9 := Lib.hid (Nat.le_trans HBQ.out hb'.size)
    clear hb hb' ha2 hn hip q0 q1 C3 HMQ RI8 HIV HBQ
    go_upto_region 11 with fail
    generalize ((W9.alloc (.cells #[.int .i64 f.args, .int .i64 f.regs, .slice Ap f.bs.length cp] 30)).alloc (.cells #[.slice As t.rest.length cs, .int .i64 t.err] 27)) = V9 at *
    generalize W9.heap.size = xp at *
    have C4 := Lib.hid (rmfunc18_any HIV9.out HBQ9.out)
    rw [EG.out] at C4
    have q0 := RI9.out.cell 0; have q1 := RI9.out.cell 1
    simp only [List.getElem?_toArray, List.getElem?_cons_zero, List.getElem?_cons_succ] at q0 q1
    go_wp2_with fail
    refine C4.out.mono ?_
    rintro e W10 ⟨v, vq, Au, cu, rfl, hn, hip, hb⟩
    obtain ⟨Aq, cq, hv, _, _⟩ := ownS_slice hn.outer
    rw [hn.len] at hv
    subst hv
    have hb' := (hb.alloc hb.size (.cells #[.int .i64 g.args, .int .i64 g.regs, .int .i64 g.slots, .slice Aq g.ms.length cq] 34)).alloc (by simp; have := hb.size; omega) (.cells #[.slice Au u.rest.length cu, .int .i64 u.err] 27)
    have ha2 : Below W10.heap.size W10 ((W10.alloc (.cells #[.int .i64 g.args, .int .i64 g.regs, .int .i64 g.slots, .slice Aq g.ms.length cq] 34)).alloc (.cells #[.slice Au u.rest.length cu, .int .i64 u.err] 27)) := ((Below.refl _ _).alloc (Nat.le_refl _) _).alloc (by simp) _
    have HMQ := Lib.hid (HMQ9.out.next hb')
    have HP := Lib.hid (HP9.out.next hb')
    have RS := Lib.hid (RS9.out.below hb' RS9.out.lt)
    have HQ : Hid (GX' W10.heap.size g Aq cq ((W10.alloc (.cells #[.int .i64 g.args, .int .i64 g.regs, .int .i64 g.slots, .slice Aq g.ms.length cq] 34)).alloc (.cells #[.slice Au u.rest.length cu, .int .i64 u.err] 27))) := ⟨(Row.new W10 _ _).alloc _, _, _, hn.below ha2⟩
    have RU := Lib.hid (Row.new' (W := W10.alloc (.cells #[.int .i64 g.args, .int .i64 g.regs, .int .i64 g.slots, .slice Aq g.ms.length cq] 34)) (p := W10.heap.size + 1) (by simp) 27 #[.slice Au u.rest.length cu, .int .i64 u.err])
    clear hb hb' ha2 hn hip q0 q1 C4 HMQ9 RI9 HIV9 HBQ9 HP9 RS9
    go_upto_region 12 with fail
    generalize ((W10.alloc (.cells #[.int .i64 g.args, .int .i64 g.regs, .int .i64 g.slots, .slice Aq g.ms.length cq] 34)).alloc (.cells #[.slice Au u.rest.length cu, .int .i64 u.err] 27)) = V at *
    generalize W10.heap.size = xq at *
    generalize W7.heap.size = xf at *
    generalize W8.heap.size = xg at *
    generalize W5.heap.size = xi at *
    clear EF EG
    have HZ : Hid (MZ w l W1.heap.size p1 A1 k1 i1 t W2.heap.size p2 A2 k2 i2 u xf f Af cf xg g Ag cg xp Ap cp As cs xq Aq cq Au cu V) := ⟨HMQ.out, HP.out, RS.out, HQ.out, RU.out⟩
    clear HMQ HP RS HQ RU
    have K7 : Hid (∀ W, MZ w l W1.heap.size p1 A1 k1 i1 t W2.heap.size p2 A2 k2 i2 u xf f Af cf xg g Ag cg xp Ap cp As cs xq Aq cq Au cu W → Calls Try.prog 12 #[.agg #[.int .i64 f.args, .int .i64 f.regs, .slice Af f.bs.length cf], .agg #[.int .i64 f.args, .int .i64 f.regs, .slice Ap f.bs.length cp]] W fun e w' => e = .returned (.bool true) ∧ MZ w l W1.heap.size p1 A1 k1 i1 t W2.heap.size p2 A2 k2 i2 u xf f Af cf xg g Ag cg xp Ap cp As cs xq Aq cq Au cu w') := fun W h => (rsame7_any W.heap.size Af Ap f.bs cf cp f.args f.regs W h.q.f.at_ h.p.at_ (Nat.le_refl _) HSF.out.1 HSF.out.2).mono fun e w' ⟨he, hb⟩ => ⟨he, h.next hb⟩
    have K8 : Hid (∀ W, MZ w l W1.heap.size p1 A1 k1 i1 t W2.heap.size p2 A2 k2 i2 u xf f Af cf xg g Ag cg xp Ap cp As cs xq Aq cq Au cu W → Calls Try.prog 15 #[.agg #[.int .i64 g.args, .int .i64 g.regs, .int .i64 g.slots, .slice Ag g.ms.length cg], .agg #[.int .i64 g.args, .int .i64 g.regs, .int .i64 g.slots, .slice Aq g.ms.length cq]] W fun e w' => e = .returned (.bool true) ∧ MZ w l W1.heap.size p1 A1 k1 i1 t W2.heap.size p2 A2 k2 i2 u xf f Af cf xg g Ag cg xp Ap cp As cs xq Aq cq Au cu w') := fun W h => (rsame8_any W.heap.size Ag Aq g.ms cg cq g.args g.regs g.slots W (h.q.g.at_ HSG.out.2.2) (h.qq.at_ HSG.out.2.2) (Nat.le_refl _) HSG.out.1 HSG.out.2.1).mono fun e w' ⟨he, hb⟩ => ⟨he, h.next hb⟩
    have KE1 : Hid (∀ W, MZ w l W1.heap.size p1 A1 k1 i1 t W2.heap.size p2 A2 k2 i2 u xf f Af cf xg g Ag cg xp Ap cp As cs xq Aq cq Au cu W → Calls Try.prog 13 #[.pointer (some ⟨p1, 0, none⟩)] W fun e w' => e = .returned (.int .i64 t.err) ∧ MZ w l W1.heap.size p1 A1 k1 i1 t W2.heap.size p2 A2 k2 i2 u xf f Af cf xg g Ag cg xp Ap cp As cs xq Aq cq Au cu w') := fun W h => (err_any h.q.c1).mono fun e w' ⟨he, hb⟩ => ⟨he, hb ▸ h⟩
    have KE2 : Hid (∀ W, MZ w l W1.heap.size p1 A1 k1 i1 t W2.heap.size p2 A2 k2 i2 u xf f Af cf xg g Ag cg xp Ap cp As cs xq Aq cq Au cu W → Calls Try.prog 13 #[.pointer (some ⟨p2, 0, none⟩)] W fun e w' => e = .returned (.int .i64 u.err) ∧ MZ w l W1.heap.size p1 A1 k1 i1 t W2.heap.size p2 A2 k2 i2 u xf f Af cf xg g Ag cg xp Ap cp As cs xq Aq cq Au cu w') := fun W h => (err_any h.q.c2).mono fun e w' ⟨he, hb⟩ => ⟨he, hb ▸ h⟩
    have KL1 : t.err = 0 → Hid (∀ W, MZ w l W1.heap.size p1 A1 k1 i1 t W2.heap.size p2 A2 k2 i2 u xf f Af cf xg g Ag cg xp Ap cp As cs xq Aq cq Au cu W → Calls Try.prog 14 #[.pointer (some ⟨p1, 0, none⟩)] W fun e w' => e = .returned (.int .i64 (t.rest.length : Int)) ∧ MZ w l W1.heap.size p1 A1 k1 i1 t W2.heap.size p2 A2 k2 i2 u xf f Af cf xg g Ag cg xp Ap cp As cs xq Aq cq Au cu w') := fun h0 W h => (left_any h.q.c1).mono fun e w' ⟨he, n, hb⟩ => ⟨by
      have h1 := congrArg List.length (HD1.out h0)
      have h2 := h.q.c1.le
      rw [List.length_drop] at h1
      rw [he, h0, leftS_ok]
      rw [show (l.length : Int) - i1 = (t.rest.length : Int) by omega], hb ▸ h.drewN n⟩
    have KL2 : u.err = 0 → Hid (∀ W, MZ w l W1.heap.size p1 A1 k1 i1 t W2.heap.size p2 A2 k2 i2 u xf f Af cf xg g Ag cg xp Ap cp As cs xq Aq cq Au cu W → Calls Try.prog 14 #[.pointer (some ⟨p2, 0, none⟩)] W fun e w' => e = .returned (.int .i64 (u.rest.length : Int)) ∧ MZ w l W1.heap.size p1 A1 k1 i1 t W2.heap.size p2 A2 k2 i2 u xf f Af cf xg g Ag cg xp Ap cp As cs xq Aq cq Au cu w') := fun h0 W h => (left_any h.q.c2).mono fun e w' ⟨he, n, hb⟩ => ⟨by
      have h1 := congrArg List.length (HD2.out h0)
      have h2 := h.q.c2.le
      rw [List.length_drop] at h1
      rw [he, h0, leftS_ok]
      rw [show (l.length : Int) - i2 = (u.rest.length : Int) by omega], hb ▸ h.drewN n⟩
    by_cases h1 : t.err = 0
    · have HL1 := KL1 h1
      have d1 : (t.err != 0) = false := by simp [h1]
      by_cases h2 : u.err = 0
      · have HL2 := KL2 h2
        have d2 : (u.err != 0) = false := by simp [h2]
        clear KL1 KL2 h1 h2
        have KL1 := HL1
        have KL2 := HL2
        clear HL1 HL2
        have hG := HZ.out
        clear HZ
        go_wp2_with fail
        refine wp_region_held_drew (S := fun w' => w'.cell? ⟨xf, 0, none⟩ = some (.int .i64 f.args) ∧ w'.cell? ⟨xf, 1, none⟩ = some (.int .i64 f.regs) ∧ w'.cell? ⟨xf, 2, none⟩ = some (.slice Af f.bs.length cf) ∧ w'.cell? ⟨xp, 0, none⟩ = some (.int .i64 f.args) ∧ w'.cell? ⟨xp, 1, none⟩ = some (.int .i64 f.regs) ∧ w'.cell? ⟨xp, 2, none⟩ = some (.slice Ap f.bs.length cp) ∧ w'.cell? ⟨xp + 1, 0, none⟩ = some (.slice As t.rest.length cs) ∧ w'.cell? ⟨xp + 1, 1, none⟩ = some (.int .i64 t.err) ∧ w'.cell? ⟨xg, 0, none⟩ = some (.int .i64 g.args) ∧ w'.cell? ⟨xg, 1, none⟩ = some (.int .i64 g.regs) ∧ w'.cell? ⟨xg, 2, none⟩ = some (.int .i64 g.slots) ∧ w'.cell? ⟨xg, 3, none⟩ = some (.slice Ag g.ms.length cg) ∧ w'.cell? ⟨xq, 0, none⟩ = some (.int .i64 g.args) ∧ w'.cell? ⟨xq, 1, none⟩ = some (.int .i64 g.regs) ∧ w'.cell? ⟨xq, 2, none⟩ = some (.int .i64 g.slots) ∧ w'.cell? ⟨xq, 3, none⟩ = some (.slice Aq g.ms.length cq) ∧ w'.cell? ⟨xq + 1, 0, none⟩ = some (.slice Au u.rest.length cu) ∧ w'.cell? ⟨xq + 1, 1, none⟩ = some (.int .i64 u.err)) (by kernel_rfl) hG.drew.cells (fun hHeld => ?_)
        refine take_at 0 48 (.agg #[.int .i64 f.args, .int .i64 f.regs, .slice Af f.bs.length cf]) rfl rfl (by kernel_rfl) (by kernel_rfl) (by kernel_rfl) (fun _ _ _ h => h) (Or.inl ⟨by rfl, ?_⟩) hHeld ?_
        · intro w9 hSw
          (try dsimp only at hSw)
          go_simp
        (try simp only [Act.put, List.setIfInBounds_toArray, List.set_cons_zero, List.set_cons_succ])
        refine take_at 1 49 (.agg #[.int .i64 f.args, .int .i64 f.regs, .slice Ap f.bs.length cp]) rfl rfl (by kernel_rfl) (by kernel_rfl) (by kernel_rfl) (fun _ _ _ h => h) (Or.inl ⟨by rfl, ?_⟩) hHeld ?_
        · intro w9 hSw
          (try dsimp only at hSw)
          go_simp
        (try simp only [Act.put, List.setIfInBounds_toArray, List.set_cons_zero, List.set_cons_succ])
        refine wpAnyH_ready (rs := [2]) (by kernel_rfl) (by simp) ?_
        refine AllReadyH.cons rfl (fun K hK => ?_) AllReadyH.nil
        go_simp
        refine (K7.out _ (by first | exact hG | exact hG.drew | exact hG.drewN _)).mono ?_
        rintro e W3 ⟨rfl, hG⟩
        (try go_wp2_with fail)
        refine hK.out _ _ hG.cells (fun hHeld => ?_)
        clear hK K
        refine take_at 3 51 (.bool true) rfl rfl (by kernel_rfl) (by kernel_rfl) (by kernel_rfl) (fun _ _ _ h => h) (Or.inl ⟨by rfl, ?_⟩) hHeld ?_
        · intro w9 hSw
          (try dsimp only at hSw)
          go_simp
        (try simp only [Act.put, List.setIfInBounds_toArray, List.set_cons_zero, List.set_cons_succ])
        refine take_at 4 52 (.pointer (some ⟨p1, 0, none⟩)) rfl rfl (by kernel_rfl) (by kernel_rfl) (by kernel_rfl) (fun _ _ _ h => h) (Or.inl ⟨by rfl, ?_⟩) hHeld ?_
        · intro w9 hSw
          (try dsimp only at hSw)
          go_simp
        (try simp only [Act.put, List.setIfInBounds_toArray, List.set_cons_zero, List.set_cons_succ])
        refine take_at 6 54 (.pointer (some ⟨xp + 1, 1, none⟩)) rfl rfl (by kernel_rfl) (by kernel_rfl) (by kernel_rfl) (fun _ _ _ h => h) (Or.inl ⟨by rfl, ?_⟩) hHeld ?_
        · intro w9 hSw
          (try dsimp only at hSw)
          go_simp
        (try simp only [Act.put, List.setIfInBounds_toArray, List.set_cons_zero, List.set_cons_succ])
        refine take_at 7 55 (.int .i64 t.err) rfl rfl (by kernel_rfl) (by kernel_rfl) (by kernel_rfl) (fun _ _ _ h => h) (Or.inl ⟨by rfl, ?_⟩) hHeld ?_
        · intro w9 hSw
          (try dsimp only at hSw)
          go_simp
        (try simp only [Act.put, List.setIfInBounds_toArray, List.set_cons_zero, List.set_cons_succ])
        refine wpAnyH_ready (rs := [5]) (by kernel_rfl) (by simp) ?_
        refine AllReadyH.cons rfl (fun K hK => ?_) AllReadyH.nil
        go_simp
        refine (KE1.out _ (by first | exact hG | exact hG.drew | exact hG.drewN _)).mono ?_
        rintro e W3 ⟨rfl, hG⟩
        (try go_wp2_with fail)
        refine hK.out _ _ hG.cells (fun hHeld => ?_)
        clear hK K
        refine take_at 8 56 (.bool true) rfl rfl (by kernel_rfl) (by kernel_rfl) (by kernel_rfl) (fun _ _ _ h => h) (Or.inl ⟨by rfl, ?_⟩) hHeld ?_
        · intro w9 hSw
          (try dsimp only at hSw)
          go_simp
        (try simp only [Act.put, List.setIfInBounds_toArray, List.set_cons_zero, List.set_cons_succ])
        refine take_at 9 57 (.bool true) rfl rfl (by kernel_rfl) (by kernel_rfl) (by kernel_rfl) (fun _ _ _ h => h) (Or.inl ⟨by rfl, ?_⟩) hHeld ?_
        · intro w9 hSw
          (try dsimp only at hSw)
          go_simp
        (try simp only [Act.put, List.setIfInBounds_toArray, List.set_cons_zero, List.set_cons_succ])
        refine take_at 10 58 (.bool true) rfl rfl (by kernel_rfl) (by kernel_rfl) (by kernel_rfl) (fun _ _ _ h => h) (Or.inl ⟨by rfl, ?_⟩) hHeld ?_
        · intro w9 hSw
          (try dsimp only at hSw)
          go_simp
        (try simp only [Act.put, List.setIfInBounds_toArray, List.set_cons_zero, List.set_cons_succ])
        refine take_at 11 59 (.pointer (some ⟨xp + 1, 1, none⟩)) rfl rfl (by kernel_rfl) (by kernel_rfl) (by kernel_rfl) (fun _ _ _ h => h) (Or.inl ⟨by rfl, ?_⟩) hHeld ?_
        · intro w9 hSw
          (try dsimp only at hSw)
          go_simp
        (try simp only [Act.put, List.setIfInBounds_toArray, List.set_cons_zero, List.set_cons_succ])
        refine take_at 12 60 (.int .i64 t.err) rfl rfl (by kernel_rfl) (by kernel_rfl) (by kernel_rfl) (fun _ _ _ h => h) (Or.inl ⟨by rfl, ?_⟩) hHeld ?_
        · intro w9 hSw
          (try dsimp only at hSw)
          go_simp
        (try simp only [Act.put, List.setIfInBounds_toArray, List.set_cons_zero, List.set_cons_succ])
        refine take_at 13 61 (.bool false) rfl rfl (by kernel_rfl) (by kernel_rfl) (by kernel_rfl) (fun _ _ _ h => h) (Or.inl ⟨by rfl, ?_⟩) hHeld ?_
        · intro w9 hSw
          (try dsimp only at hSw)
          go_simp
        (try simp only [Act.put, List.setIfInBounds_toArray, List.set_cons_zero, List.set_cons_succ])
        refine take_at 14 62 (.bool false) rfl rfl (by kernel_rfl) (by kernel_rfl) (by kernel_rfl) (fun _ _ _ h => h) (Or.inl ⟨by rfl, ?_⟩) hHeld ?_
        · intro w9 hSw
          (try dsimp only at hSw)
          go_simp
        (try simp only [Act.put, List.setIfInBounds_toArray, List.set_cons_zero, List.set_cons_succ])
        refine take_at 15 63 (.pointer (some ⟨p1, 0, none⟩)) rfl rfl (by kernel_rfl) (by kernel_rfl) (by kernel_rfl) (fun _ _ _ h => h) (Or.inl ⟨by rfl, ?_⟩) hHeld ?_
        · intro w9 hSw
          (try dsimp only at hSw)
          go_simp
        (try simp only [Act.put, List.setIfInBounds_toArray, List.set_cons_zero, List.set_cons_succ])
        refine take_at 17 65 (.pointer (some ⟨xp + 1, 0, none⟩)) rfl rfl (by kernel_rfl) (by kernel_rfl) (by kernel_rfl) (fun _ _ _ h => h) (Or.inl ⟨by rfl, ?_⟩) hHeld ?_
        · intro w9 hSw
          (try dsimp only at hSw)
          go_simp
        (try simp only [Act.put, List.setIfInBounds_toArray, List.set_cons_zero, List.set_cons_succ])
        refine take_at 18 66 (.slice As t.rest.length cs) rfl rfl (by kernel_rfl) (by kernel_rfl) (by kernel_rfl) (fun _ _ _ h => h) (Or.inl ⟨by rfl, ?_⟩) hHeld ?_
        · intro w9 hSw
          (try dsimp only at hSw)
          go_simp
        (try simp only [Act.put, List.setIfInBounds_toArray, List.set_cons_zero, List.set_cons_succ])
        refine take_at 19 67 (.int .i64 (t.rest.length : Int)) rfl rfl (by kernel_rfl) (by kernel_rfl) (by kernel_rfl) (fun _ _ _ h => h) (Or.inl ⟨by rfl, ?_⟩) hHeld ?_
        · intro w9 hSw
          (try dsimp only at hSw)
          go_simp
        (try simp only [Act.put, List.setIfInBounds_toArray, List.set_cons_zero, List.set_cons_succ])
        refine wpAnyH_ready (rs := [16]) (by kernel_rfl) (by simp) ?_
        refine AllReadyH.cons rfl (fun K hK => ?_) AllReadyH.nil
        go_simp
        refine (KL1.out _ (by first | exact hG | exact hG.drew | exact hG.drewN _)).mono ?_
        rintro e W3 ⟨rfl, hG⟩
        (try go_wp2_with fail)
        refine hK.out _ _ hG.cells (fun hHeld => ?_)
        clear hK K
        refine take_at 20 68 (.bool true) rfl rfl (by kernel_rfl) (by kernel_rfl) (by kernel_rfl) (fun _ _ _ h => h) (Or.inl ⟨by rfl, ?_⟩) hHeld ?_
        · intro w9 hSw
          (try dsimp only at hSw)
          go_simp
        (try simp only [Act.put, List.setIfInBounds_toArray, List.set_cons_zero, List.set_cons_succ])
        refine take_at 21 69 (.bool true) rfl rfl (by kernel_rfl) (by kernel_rfl) (by kernel_rfl) (fun _ _ _ h => h) (Or.inl ⟨by rfl, ?_⟩) hHeld ?_
        · intro w9 hSw
          (try dsimp only at hSw)
          go_simp
        (try simp only [Act.put, List.setIfInBounds_toArray, List.set_cons_zero, List.set_cons_succ])
        refine take_at 22 70 (.bool true) rfl rfl (by kernel_rfl) (by kernel_rfl) (by kernel_rfl) (fun _ _ _ h => h) (Or.inl ⟨by rfl, ?_⟩) hHeld ?_
        · intro w9 hSw
          (try dsimp only at hSw)
          go_simp
        (try simp only [Act.put, List.setIfInBounds_toArray, List.set_cons_zero, List.set_cons_succ])
        refine take_at 23 71 (.bool true) rfl rfl (by kernel_rfl) (by kernel_rfl) (by kernel_rfl) (fun _ _ _ h => h) (Or.inl ⟨by rfl, ?_⟩) hHeld ?_
        · intro w9 hSw
          (try dsimp only at hSw)
          go_simp
        (try simp only [Act.put, List.setIfInBounds_toArray, List.set_cons_zero, List.set_cons_succ])
        refine take_at 24 72 (.agg #[.int .i64 g.args, .int .i64 g.regs, .int .i64 g.slots, .slice Ag g.ms.length cg]) rfl rfl (by kernel_rfl) (by kernel_rfl) (by kernel_rfl) (fun _ _ _ h => h) (Or.inl ⟨by rfl, ?_⟩) hHeld ?_
        · intro w9 hSw
          (try dsimp only at hSw)
          go_simp
        (try simp only [Act.put, List.setIfInBounds_toArray, List.set_cons_zero, List.set_cons_succ])
        refine take_at 25 73 (.agg #[.int .i64 g.args, .int .i64 g.regs, .int .i64 g.slots, .slice Aq g.ms.length cq]) rfl rfl (by kernel_rfl) (by kernel_rfl) (by kernel_rfl) (fun _ _ _ h => h) (Or.inl ⟨by rfl, ?_⟩) hHeld ?_
        · intro w9 hSw
          (try dsimp only at hSw)
          go_simp
        (try simp only [Act.put, List.setIfInBounds_toArray, List.set_cons_zero, List.set_cons_succ])
        refine wpAnyH_ready (rs := [26]) (by kernel_rfl) (by simp) ?_
        refine AllReadyH.cons rfl (fun K hK => ?_) AllReadyH.nil
        go_simp
        refine (K8.out _ (by first | exact hG | exact hG.drew | exact hG.drewN _)).mono ?_
        rintro e W3 ⟨rfl, hG⟩
        (try go_wp2_with fail)
        refine hK.out _ _ hG.cells (fun hHeld => ?_)
        clear hK K
        refine take_at 27 75 (.bool true) rfl rfl (by kernel_rfl) (by kernel_rfl) (by kernel_rfl) (fun _ _ _ h => h) (Or.inl ⟨by rfl, ?_⟩) hHeld ?_
        · intro w9 hSw
          (try dsimp only at hSw)
          go_simp
        (try simp only [Act.put, List.setIfInBounds_toArray, List.set_cons_zero, List.set_cons_succ])
        refine take_at 28 76 (.bool true) rfl rfl (by kernel_rfl) (by kernel_rfl) (by kernel_rfl) (fun _ _ _ h => h) (Or.inl ⟨by rfl, ?_⟩) hHeld ?_
        · intro w9 hSw
          (try dsimp only at hSw)
          go_simp
        (try simp only [Act.put, List.setIfInBounds_toArray, List.set_cons_zero, List.set_cons_succ])
        refine take_at 29 77 (.pointer (some ⟨p2, 0, none⟩)) rfl rfl (by kernel_rfl) (by kernel_rfl) (by kernel_rfl) (fun _ _ _ h => h) (Or.inl ⟨by rfl, ?_⟩) hHeld ?_
        · intro w9 hSw
          (try dsimp only at hSw)
          go_simp
        (try simp only [Act.put, List.setIfInBounds_toArray, List.set_cons_zero, List.set_cons_succ])
        refine take_at 31 79 (.pointer (some ⟨xq + 1, 1, none⟩)) rfl rfl (by kernel_rfl) (by kernel_rfl) (by kernel_rfl) (fun _ _ _ h => h) (Or.inl ⟨by rfl, ?_⟩) hHeld ?_
        · intro w9 hSw
          (try dsimp only at hSw)
          go_simp
        (try simp only [Act.put, List.setIfInBounds_toArray, List.set_cons_zero, List.set_cons_succ])
        refine take_at 32 80 (.int .i64 u.err) rfl rfl (by kernel_rfl) (by kernel_rfl) (by kernel_rfl) (fun _ _ _ h => h) (Or.inl ⟨by rfl, ?_⟩) hHeld ?_
        · intro w9 hSw
          (try dsimp only at hSw)
          go_simp
        (try simp only [Act.put, List.setIfInBounds_toArray, List.set_cons_zero, List.set_cons_succ])
        refine wpAnyH_ready (rs := [30]) (by kernel_rfl) (by simp) ?_
        refine AllReadyH.cons rfl (fun K hK => ?_) AllReadyH.nil
        go_simp
        refine (KE2.out _ (by first | exact hG | exact hG.drew | exact hG.drewN _)).mono ?_
        rintro e W3 ⟨rfl, hG⟩
        (try go_wp2_with fail)
        refine hK.out _ _ hG.cells (fun hHeld => ?_)
        clear hK K
        refine take_at 33 81 (.bool true) rfl rfl (by kernel_rfl) (by kernel_rfl) (by kernel_rfl) (fun _ _ _ h => h) (Or.inl ⟨by rfl, ?_⟩) hHeld ?_
        · intro w9 hSw
          (try dsimp only at hSw)
          go_simp
        (try simp only [Act.put, List.setIfInBounds_toArray, List.set_cons_zero, List.set_cons_succ])
        refine take_at 34 82 (.bool true) rfl rfl (by kernel_rfl) (by kernel_rfl) (by kernel_rfl) (fun _ _ _ h => h) (Or.inl ⟨by rfl, ?_⟩) hHeld ?_
        · intro w9 hSw
          (try dsimp only at hSw)
          go_simp
        (try simp only [Act.put, List.setIfInBounds_toArray, List.set_cons_zero, List.set_cons_succ])
        refine take_at 35 83 (.bool true) rfl rfl (by kernel_rfl) (by kernel_rfl) (by kernel_rfl) (fun _ _ _ h => h) (Or.inl ⟨by rfl, ?_⟩) hHeld ?_
        · intro w9 hSw
          (try dsimp only at hSw)
          go_simp
        (try simp only [Act.put, List.setIfInBounds_toArray, List.set_cons_zero, List.set_cons_succ])
        refine take_at 36 84 (.pointer (some ⟨xq + 1, 1, none⟩)) rfl rfl (by kernel_rfl) (by kernel_rfl) (by kernel_rfl) (fun _ _ _ h => h) (Or.inl ⟨by rfl, ?_⟩) hHeld ?_
        · intro w9 hSw
          (try dsimp only at hSw)
          go_simp
        (try simp only [Act.put, List.setIfInBounds_toArray, List.set_cons_zero, List.set_cons_succ])
        refine take_at 37 85 (.int .i64 u.err) rfl rfl (by kernel_rfl) (by kernel_rfl) (by kernel_rfl) (fun _ _ _ h => h) (Or.inl ⟨by rfl, ?_⟩) hHeld ?_
        · intro w9 hSw
          (try dsimp only at hSw)
          go_simp
        (try simp only [Act.put, List.setIfInBounds_toArray, List.set_cons_zero, List.set_cons_succ])
        refine take_at 38 86 (.bool false) rfl rfl (by kernel_rfl) (by kernel_rfl) (by kernel_rfl) (fun _ _ _ h => h) (Or.inl ⟨by rfl, ?_⟩) hHeld ?_
        · intro w9 hSw
          (try dsimp only at hSw)
          go_simp
        (try simp only [Act.put, List.setIfInBounds_toArray, List.set_cons_zero, List.set_cons_succ])
        refine take_at 39 87 (.bool false) rfl rfl (by kernel_rfl) (by kernel_rfl) (by kernel_rfl) (fun _ _ _ h => h) (Or.inl ⟨by rfl, ?_⟩) hHeld ?_
        · intro w9 hSw
          (try dsimp only at hSw)
          go_simp
        (try simp only [Act.put, List.setIfInBounds_toArray, List.set_cons_zero, List.set_cons_succ])
        refine take_at 40 88 (.pointer (some ⟨p2, 0, none⟩)) rfl rfl (by kernel_rfl) (by kernel_rfl) (by kernel_rfl) (fun _ _ _ h => h) (Or.inl ⟨by rfl, ?_⟩) hHeld ?_
        · intro w9 hSw
          (try dsimp only at hSw)
          go_simp
        (try simp only [Act.put, List.setIfInBounds_toArray, List.set_cons_zero, List.set_cons_succ])
        refine take_at 42 90 (.pointer (some ⟨xq + 1, 0, none⟩)) rfl rfl (by kernel_rfl) (by kernel_rfl) (by kernel_rfl) (fun _ _ _ h => h) (Or.inl ⟨by rfl, ?_⟩) hHeld ?_
        · intro w9 hSw
          (try dsimp only at hSw)
          go_simp
        (try simp only [Act.put, List.setIfInBounds_toArray, List.set_cons_zero, List.set_cons_succ])
        refine take_at 43 91 (.slice Au u.rest.length cu) rfl rfl (by kernel_rfl) (by kernel_rfl) (by kernel_rfl) (fun _ _ _ h => h) (Or.inl ⟨by rfl, ?_⟩) hHeld ?_
        · intro w9 hSw
          (try dsimp only at hSw)
          go_simp
        (try simp only [Act.put, List.setIfInBounds_toArray, List.set_cons_zero, List.set_cons_succ])
        refine take_at 44 92 (.int .i64 (u.rest.length : Int)) rfl rfl (by kernel_rfl) (by kernel_rfl) (by kernel_rfl) (fun _ _ _ h => h) (Or.inl ⟨by rfl, ?_⟩) hHeld ?_
        · intro w9 hSw
          (try dsimp only at hSw)
          go_simp
        (try simp only [Act.put, List.setIfInBounds_toArray, List.set_cons_zero, List.set_cons_succ])
        refine wpAnyH_ready (rs := [41]) (by kernel_rfl) (by simp) ?_
        refine AllReadyH.cons rfl (fun K hK => ?_) AllReadyH.nil
        go_simp
        refine (KL2.out _ (by first | exact hG | exact hG.drew | exact hG.drewN _)).mono ?_
        rintro e W3 ⟨rfl, hG⟩
        (try go_wp2_with fail)
        refine hK.out _ _ hG.cells (fun hHeld => ?_)
        clear hK K
        refine take_at 45 93 (.bool true) rfl rfl (by kernel_rfl) (by kernel_rfl) (by kernel_rfl) (fun _ _ _ h => h) (Or.inl ⟨by rfl, ?_⟩) hHeld ?_
        · intro w9 hSw
          (try dsimp only at hSw)
          go_simp
        (try simp only [Act.put, List.setIfInBounds_toArray, List.set_cons_zero, List.set_cons_succ])
        refine take_at 46 94 (.bool true) rfl rfl (by kernel_rfl) (by kernel_rfl) (by kernel_rfl) (fun _ _ _ h => h) (Or.inl ⟨by rfl, ?_⟩) hHeld ?_
        · intro w9 hSw
          (try dsimp only at hSw)
          go_simp
        (try simp only [Act.put, List.setIfInBounds_toArray, List.set_cons_zero, List.set_cons_succ])
        refine take_at 47 95 (.bool true) rfl rfl (by kernel_rfl) (by kernel_rfl) (by kernel_rfl) (fun _ _ _ h => h) (Or.inl ⟨by rfl, ?_⟩) hHeld ?_
        · intro w9 hSw
          (try dsimp only at hSw)
          go_simp
        (try simp only [Act.put, List.setIfInBounds_toArray, List.set_cons_zero, List.set_cons_succ])
        refine wpAnyH_ready (rs := [48]) (by kernel_rfl) (by simp) ?_
        refine AllReadyH.cons rfl (fun K hK => ?_) AllReadyH.nil
        go_simp
        refine hK.out _ _ hHeld (fun hHeld => ?_)
        clear hK K
        refine wpAnyH_done (by kernel_rfl) ?_ _
        clear hHeld
        go_wp2
        go_ret
        exact ⟨rfl, hG.q.blw⟩
      · have d2 : (u.err != 0) = true := by simp [h2]
        clear KL1 KL2 h1 h2
        have KL1 := HL1
        clear HL1
        have hG := HZ.out
        clear HZ
        go_wp2_with fail
        refine wp_region_held_drew (S := fun w' => w'.cell? ⟨xf, 0, none⟩ = some (.int .i64 f.args) ∧ w'.cell? ⟨xf, 1, none⟩ = some (.int .i64 f.regs) ∧ w'.cell? ⟨xf, 2, none⟩ = some (.slice Af f.bs.length cf) ∧ w'.cell? ⟨xp, 0, none⟩ = some (.int .i64 f.args) ∧ w'.cell? ⟨xp, 1, none⟩ = some (.int .i64 f.regs) ∧ w'.cell? ⟨xp, 2, none⟩ = some (.slice Ap f.bs.length cp) ∧ w'.cell? ⟨xp + 1, 0, none⟩ = some (.slice As t.rest.length cs) ∧ w'.cell? ⟨xp + 1, 1, none⟩ = some (.int .i64 t.err) ∧ w'.cell? ⟨xg, 0, none⟩ = some (.int .i64 g.args) ∧ w'.cell? ⟨xg, 1, none⟩ = some (.int .i64 g.regs) ∧ w'.cell? ⟨xg, 2, none⟩ = some (.int .i64 g.slots) ∧ w'.cell? ⟨xg, 3, none⟩ = some (.slice Ag g.ms.length cg) ∧ w'.cell? ⟨xq, 0, none⟩ = some (.int .i64 g.args) ∧ w'.cell? ⟨xq, 1, none⟩ = some (.int .i64 g.regs) ∧ w'.cell? ⟨xq, 2, none⟩ = some (.int .i64 g.slots) ∧ w'.cell? ⟨xq, 3, none⟩ = some (.slice Aq g.ms.length cq) ∧ w'.cell? ⟨xq + 1, 0, none⟩ = some (.slice Au u.rest.length cu) ∧ w'.cell? ⟨xq + 1, 1, none⟩ = some (.int .i64 u.err)) (by kernel_rfl) hG.drew.cells (fun hHeld => ?_)
        refine take_at 0 48 (.agg #[.int .i64 f.args, .int .i64 f.regs, .slice Af f.bs.length cf]) rfl rfl (by kernel_rfl) (by kernel_rfl) (by kernel_rfl) (fun _ _ _ h => h) (Or.inl ⟨by rfl, ?_⟩) hHeld ?_
        · intro w9 hSw
          (try dsimp only at hSw)
          go_simp
        (try simp only [Act.put, List.setIfInBounds_toArray, List.set_cons_zero, List.set_cons_succ])
        refine take_at 1 49 (.agg #[.int .i64 f.args, .int .i64 f.regs, .slice Ap f.bs.length cp]) rfl rfl (by kernel_rfl) (by kernel_rfl) (by kernel_rfl) (fun _ _ _ h => h) (Or.inl ⟨by rfl, ?_⟩) hHeld ?_
        · intro w9 hSw
          (try dsimp only at hSw)
          go_simp
        (try simp only [Act.put, List.setIfInBounds_toArray, List.set_cons_zero, List.set_cons_succ])
        refine wpAnyH_ready (rs := [2]) (by kernel_rfl) (by simp) ?_
        refine AllReadyH.cons rfl (fun K hK => ?_) AllReadyH.nil
        go_simp
        refine (K7.out _ (by first | exact hG | exact hG.drew | exact hG.drewN _)).mono ?_
        rintro e W3 ⟨rfl, hG⟩
        (try go_wp2_with fail)
        refine hK.out _ _ hG.cells (fun hHeld => ?_)
        clear hK K
        refine take_at 3 51 (.bool true) rfl rfl (by kernel_rfl) (by kernel_rfl) (by kernel_rfl) (fun _ _ _ h => h) (Or.inl ⟨by rfl, ?_⟩) hHeld ?_
        · intro w9 hSw
          (try dsimp only at hSw)
          go_simp
        (try simp only [Act.put, List.setIfInBounds_toArray, List.set_cons_zero, List.set_cons_succ])
        refine take_at 4 52 (.pointer (some ⟨p1, 0, none⟩)) rfl rfl (by kernel_rfl) (by kernel_rfl) (by kernel_rfl) (fun _ _ _ h => h) (Or.inl ⟨by rfl, ?_⟩) hHeld ?_
        · intro w9 hSw
          (try dsimp only at hSw)
          go_simp
        (try simp only [Act.put, List.setIfInBounds_toArray, List.set_cons_zero, List.set_cons_succ])
        refine take_at 6 54 (.pointer (some ⟨xp + 1, 1, none⟩)) rfl rfl (by kernel_rfl) (by kernel_rfl) (by kernel_rfl) (fun _ _ _ h => h) (Or.inl ⟨by rfl, ?_⟩) hHeld ?_
        · intro w9 hSw
          (try dsimp only at hSw)
          go_simp
        (try simp only [Act.put, List.setIfInBounds_toArray, List.set_cons_zero, List.set_cons_succ])
        refine take_at 7 55 (.int .i64 t.err) rfl rfl (by kernel_rfl) (by kernel_rfl) (by kernel_rfl) (fun _ _ _ h => h) (Or.inl ⟨by rfl, ?_⟩) hHeld ?_
        · intro w9 hSw
          (try dsimp only at hSw)
          go_simp
        (try simp only [Act.put, List.setIfInBounds_toArray, List.set_cons_zero, List.set_cons_succ])
        refine wpAnyH_ready (rs := [5]) (by kernel_rfl) (by simp) ?_
        refine AllReadyH.cons rfl (fun K hK => ?_) AllReadyH.nil
        go_simp
        refine (KE1.out _ (by first | exact hG | exact hG.drew | exact hG.drewN _)).mono ?_
        rintro e W3 ⟨rfl, hG⟩
        (try go_wp2_with fail)
        refine hK.out _ _ hG.cells (fun hHeld => ?_)
        clear hK K
        refine take_at 8 56 (.bool true) rfl rfl (by kernel_rfl) (by kernel_rfl) (by kernel_rfl) (fun _ _ _ h => h) (Or.inl ⟨by rfl, ?_⟩) hHeld ?_
        · intro w9 hSw
          (try dsimp only at hSw)
          go_simp
        (try simp only [Act.put, List.setIfInBounds_toArray, List.set_cons_zero, List.set_cons_succ])
        refine take_at 9 57 (.bool true) rfl rfl (by kernel_rfl) (by kernel_rfl) (by kernel_rfl) (fun _ _ _ h => h) (Or.inl ⟨by rfl, ?_⟩) hHeld ?_
        · intro w9 hSw
          (try dsimp only at hSw)
          go_simp
        (try simp only [Act.put, List.setIfInBounds_toArray, List.set_cons_zero, List.set_cons_succ])
        refine take_at 10 58 (.bool true) rfl rfl (by kernel_rfl) (by kernel_rfl) (by kernel_rfl) (fun _ _ _ h => h) (Or.inl ⟨by rfl, ?_⟩) hHeld ?_
        · intro w9 hSw
          (try dsimp only at hSw)
          go_simp
        (try simp only [Act.put, List.setIfInBounds_toArray, List.set_cons_zero, List.set_cons_succ])
        refine take_at 11 59 (.pointer (some ⟨xp + 1, 1, none⟩)) rfl rfl (by kernel_rfl) (by kernel_rfl) (by kernel_rfl) (fun _ _ _ h => h) (Or.inl ⟨by rfl, ?_⟩) hHeld ?_
        · intro w9 hSw
          (try dsimp only at hSw)
          go_simp
        (try simp only [Act.put, List.setIfInBounds_toArray, List.set_cons_zero, List.set_cons_succ])
        refine take_at 12 60 (.int .i64 t.err) rfl rfl (by kernel_rfl) (by kernel_rfl) (by kernel_rfl) (fun _ _ _ h => h) (Or.inl ⟨by rfl, ?_⟩) hHeld ?_
        · intro w9 hSw
          (try dsimp only at hSw)
          go_simp
        (try simp only [Act.put, List.setIfInBounds_toArray, List.set_cons_zero, List.set_cons_succ])
        refine take_at 13 61 (.bool false) rfl rfl (by kernel_rfl) (by kernel_rfl) (by kernel_rfl) (fun _ _ _ h => h) (Or.inl ⟨by rfl, ?_⟩) hHeld ?_
        · intro w9 hSw
          (try dsimp only at hSw)
          go_simp
        (try simp only [Act.put, List.setIfInBounds_toArray, List.set_cons_zero, List.set_cons_succ])
        refine take_at 14 62 (.bool false) rfl rfl (by kernel_rfl) (by kernel_rfl) (by kernel_rfl) (fun _ _ _ h => h) (Or.inl ⟨by rfl, ?_⟩) hHeld ?_
        · intro w9 hSw
          (try dsimp only at hSw)
          go_simp
        (try simp only [Act.put, List.setIfInBounds_toArray, List.set_cons_zero, List.set_cons_succ])
        refine take_at 15 63 (.pointer (some ⟨p1, 0, none⟩)) rfl rfl (by kernel_rfl) (by kernel_rfl) (by kernel_rfl) (fun _ _ _ h => h) (Or.inl ⟨by rfl, ?_⟩) hHeld ?_
        · intro w9 hSw
          (try dsimp only at hSw)
          go_simp
        (try simp only [Act.put, List.setIfInBounds_toArray, List.set_cons_zero, List.set_cons_succ])
        refine take_at 17 65 (.pointer (some ⟨xp + 1, 0, none⟩)) rfl rfl (by kernel_rfl) (by kernel_rfl) (by kernel_rfl) (fun _ _ _ h => h) (Or.inl ⟨by rfl, ?_⟩) hHeld ?_
        · intro w9 hSw
          (try dsimp only at hSw)
          go_simp
        (try simp only [Act.put, List.setIfInBounds_toArray, List.set_cons_zero, List.set_cons_succ])
        refine take_at 18 66 (.slice As t.rest.length cs) rfl rfl (by kernel_rfl) (by kernel_rfl) (by kernel_rfl) (fun _ _ _ h => h) (Or.inl ⟨by rfl, ?_⟩) hHeld ?_
        · intro w9 hSw
          (try dsimp only at hSw)
          go_simp
        (try simp only [Act.put, List.setIfInBounds_toArray, List.set_cons_zero, List.set_cons_succ])
        refine take_at 19 67 (.int .i64 (t.rest.length : Int)) rfl rfl (by kernel_rfl) (by kernel_rfl) (by kernel_rfl) (fun _ _ _ h => h) (Or.inl ⟨by rfl, ?_⟩) hHeld ?_
        · intro w9 hSw
          (try dsimp only at hSw)
          go_simp
        (try simp only [Act.put, List.setIfInBounds_toArray, List.set_cons_zero, List.set_cons_succ])
        refine wpAnyH_ready (rs := [16]) (by kernel_rfl) (by simp) ?_
        refine AllReadyH.cons rfl (fun K hK => ?_) AllReadyH.nil
        go_simp
        refine (KL1.out _ (by first | exact hG | exact hG.drew | exact hG.drewN _)).mono ?_
        rintro e W3 ⟨rfl, hG⟩
        (try go_wp2_with fail)
        refine hK.out _ _ hG.cells (fun hHeld => ?_)
        clear hK K
        refine take_at 20 68 (.bool true) rfl rfl (by kernel_rfl) (by kernel_rfl) (by kernel_rfl) (fun _ _ _ h => h) (Or.inl ⟨by rfl, ?_⟩) hHeld ?_
        · intro w9 hSw
          (try dsimp only at hSw)
          go_simp
        (try simp only [Act.put, List.setIfInBounds_toArray, List.set_cons_zero, List.set_cons_succ])
        refine take_at 21 69 (.bool true) rfl rfl (by kernel_rfl) (by kernel_rfl) (by kernel_rfl) (fun _ _ _ h => h) (Or.inl ⟨by rfl, ?_⟩) hHeld ?_
        · intro w9 hSw
          (try dsimp only at hSw)
          go_simp
        (try simp only [Act.put, List.setIfInBounds_toArray, List.set_cons_zero, List.set_cons_succ])
        refine take_at 22 70 (.bool true) rfl rfl (by kernel_rfl) (by kernel_rfl) (by kernel_rfl) (fun _ _ _ h => h) (Or.inl ⟨by rfl, ?_⟩) hHeld ?_
        · intro w9 hSw
          (try dsimp only at hSw)
          go_simp
        (try simp only [Act.put, List.setIfInBounds_toArray, List.set_cons_zero, List.set_cons_succ])
        refine take_at 23 71 (.bool true) rfl rfl (by kernel_rfl) (by kernel_rfl) (by kernel_rfl) (fun _ _ _ h => h) (Or.inl ⟨by rfl, ?_⟩) hHeld ?_
        · intro w9 hSw
          (try dsimp only at hSw)
          go_simp
        (try simp only [Act.put, List.setIfInBounds_toArray, List.set_cons_zero, List.set_cons_succ])
        refine take_at 24 72 (.agg #[.int .i64 g.args, .int .i64 g.regs, .int .i64 g.slots, .slice Ag g.ms.length cg]) rfl rfl (by kernel_rfl) (by kernel_rfl) (by kernel_rfl) (fun _ _ _ h => h) (Or.inl ⟨by rfl, ?_⟩) hHeld ?_
        · intro w9 hSw
          (try dsimp only at hSw)
          go_simp
        (try simp only [Act.put, List.setIfInBounds_toArray, List.set_cons_zero, List.set_cons_succ])
        refine take_at 25 73 (.agg #[.int .i64 g.args, .int .i64 g.regs, .int .i64 g.slots, .slice Aq g.ms.length cq]) rfl rfl (by kernel_rfl) (by kernel_rfl) (by kernel_rfl) (fun _ _ _ h => h) (Or.inl ⟨by rfl, ?_⟩) hHeld ?_
        · intro w9 hSw
          (try dsimp only at hSw)
          go_simp
        (try simp only [Act.put, List.setIfInBounds_toArray, List.set_cons_zero, List.set_cons_succ])
        refine wpAnyH_ready (rs := [26]) (by kernel_rfl) (by simp) ?_
        refine AllReadyH.cons rfl (fun K hK => ?_) AllReadyH.nil
        go_simp
        refine (K8.out _ (by first | exact hG | exact hG.drew | exact hG.drewN _)).mono ?_
        rintro e W3 ⟨rfl, hG⟩
        (try go_wp2_with fail)
        refine hK.out _ _ hG.cells (fun hHeld => ?_)
        clear hK K
        refine take_at 27 75 (.bool true) rfl rfl (by kernel_rfl) (by kernel_rfl) (by kernel_rfl) (fun _ _ _ h => h) (Or.inl ⟨by rfl, ?_⟩) hHeld ?_
        · intro w9 hSw
          (try dsimp only at hSw)
          go_simp
        (try simp only [Act.put, List.setIfInBounds_toArray, List.set_cons_zero, List.set_cons_succ])
        refine take_at 28 76 (.bool true) rfl rfl (by kernel_rfl) (by kernel_rfl) (by kernel_rfl) (fun _ _ _ h => h) (Or.inl ⟨by rfl, ?_⟩) hHeld ?_
        · intro w9 hSw
          (try dsimp only at hSw)
          go_simp
        (try simp only [Act.put, List.setIfInBounds_toArray, List.set_cons_zero, List.set_cons_succ])
        refine take_at 29 77 (.pointer (some ⟨p2, 0, none⟩)) rfl rfl (by kernel_rfl) (by kernel_rfl) (by kernel_rfl) (fun _ _ _ h => h) (Or.inl ⟨by rfl, ?_⟩) hHeld ?_
        · intro w9 hSw
          (try dsimp only at hSw)
          go_simp
        (try simp only [Act.put, List.setIfInBounds_toArray, List.set_cons_zero, List.set_cons_succ])
        refine take_at 31 79 (.pointer (some ⟨xq + 1, 1, none⟩)) rfl rfl (by kernel_rfl) (by kernel_rfl) (by kernel_rfl) (fun _ _ _ h => h) (Or.inl ⟨by rfl, ?_⟩) hHeld ?_
        · intro w9 hSw
          (try dsimp only at hSw)
          go_simp
        (try simp only [Act.put, List.setIfInBounds_toArray, List.set_cons_zero, List.set_cons_succ])
        refine take_at 32 80 (.int .i64 u.err) rfl rfl (by kernel_rfl) (by kernel_rfl) (by kernel_rfl) (fun _ _ _ h => h) (Or.inl ⟨by rfl, ?_⟩) hHeld ?_
        · intro w9 hSw
          (try dsimp only at hSw)
          go_simp
        (try simp only [Act.put, List.setIfInBounds_toArray, List.set_cons_zero, List.set_cons_succ])
        refine wpAnyH_ready (rs := [30]) (by kernel_rfl) (by simp) ?_
        refine AllReadyH.cons rfl (fun K hK => ?_) AllReadyH.nil
        go_simp
        refine (KE2.out _ (by first | exact hG | exact hG.drew | exact hG.drewN _)).mono ?_
        rintro e W3 ⟨rfl, hG⟩
        (try go_wp2_with fail)
        refine hK.out _ _ hG.cells (fun hHeld => ?_)
        clear hK K
        refine take_at 33 81 (.bool true) rfl rfl (by kernel_rfl) (by kernel_rfl) (by kernel_rfl) (fun _ _ _ h => h) (Or.inl ⟨by rfl, ?_⟩) hHeld ?_
        · intro w9 hSw
          (try dsimp only at hSw)
          go_simp
        (try simp only [Act.put, List.setIfInBounds_toArray, List.set_cons_zero, List.set_cons_succ])
        refine take_at 34 82 (.bool true) rfl rfl (by kernel_rfl) (by kernel_rfl) (by kernel_rfl) (fun _ _ _ h => h) (Or.inl ⟨by rfl, ?_⟩) hHeld ?_
        · intro w9 hSw
          (try dsimp only at hSw)
          go_simp
        (try simp only [Act.put, List.setIfInBounds_toArray, List.set_cons_zero, List.set_cons_succ])
        refine take_at 35 83 (.bool true) rfl rfl (by kernel_rfl) (by kernel_rfl) (by kernel_rfl) (fun _ _ _ h => h) (Or.inl ⟨by rfl, ?_⟩) hHeld ?_
        · intro w9 hSw
          (try dsimp only at hSw)
          go_simp
        (try simp only [Act.put, List.setIfInBounds_toArray, List.set_cons_zero, List.set_cons_succ])
        refine take_at 36 84 (.pointer (some ⟨xq + 1, 1, none⟩)) rfl rfl (by kernel_rfl) (by kernel_rfl) (by kernel_rfl) (fun _ _ _ h => h) (Or.inl ⟨by rfl, ?_⟩) hHeld ?_
        · intro w9 hSw
          (try dsimp only at hSw)
          go_simp
        (try simp only [Act.put, List.setIfInBounds_toArray, List.set_cons_zero, List.set_cons_succ])
        refine take_at 37 85 (.int .i64 u.err) rfl rfl (by kernel_rfl) (by kernel_rfl) (by kernel_rfl) (fun _ _ _ h => h) (Or.inl ⟨by rfl, ?_⟩) hHeld ?_
        · intro w9 hSw
          (try dsimp only at hSw)
          go_simp
        (try simp only [Act.put, List.setIfInBounds_toArray, List.set_cons_zero, List.set_cons_succ])
        refine take_at 38 86 (.bool true) rfl rfl (by kernel_rfl) (by kernel_rfl) (by kernel_rfl) (fun _ _ _ h => h) (Or.inl ⟨by rfl, ?_⟩) hHeld ?_
        · intro w9 hSw
          (try dsimp only at hSw)
          go_simp
        (try simp only [Act.put, List.setIfInBounds_toArray, List.set_cons_zero, List.set_cons_succ])
        refine take_at 39 87 (.bool true) rfl rfl (by kernel_rfl) (by kernel_rfl) (by kernel_rfl) (fun _ _ _ h => h) (Or.inl ⟨by rfl, ?_⟩) hHeld ?_
        · intro w9 hSw
          (try dsimp only at hSw)
          go_simp
        (try simp only [Act.put, List.setIfInBounds_toArray, List.set_cons_zero, List.set_cons_succ])
        refine take_at 40 88 undef rfl rfl (by kernel_rfl) (by kernel_rfl) (by kernel_rfl) (fun _ _ _ h => h) (Or.inr ⟨by rfl, rfl⟩) hHeld ?_
        (try simp only [Act.put, List.setIfInBounds_toArray, List.set_cons_zero, List.set_cons_succ])
        refine take_at 41 89 undef rfl rfl (by kernel_rfl) (by kernel_rfl) (by kernel_rfl) (fun _ _ _ h => h) (Or.inr ⟨by rfl, rfl⟩) hHeld ?_
        (try simp only [Act.put, List.setIfInBounds_toArray, List.set_cons_zero, List.set_cons_succ])
        refine take_at 42 90 undef rfl rfl (by kernel_rfl) (by kernel_rfl) (by kernel_rfl) (fun _ _ _ h => h) (Or.inr ⟨by rfl, rfl⟩) hHeld ?_
        (try simp only [Act.put, List.setIfInBounds_toArray, List.set_cons_zero, List.set_cons_succ])
        refine take_at 43 91 undef rfl rfl (by kernel_rfl) (by kernel_rfl) (by kernel_rfl) (fun _ _ _ h => h) (Or.inr ⟨by rfl, rfl⟩) hHeld ?_
        (try simp only [Act.put, List.setIfInBounds_toArray, List.set_cons_zero, List.set_cons_succ])
        refine take_at 44 92 undef rfl rfl (by kernel_rfl) (by kernel_rfl) (by kernel_rfl) (fun _ _ _ h => h) (Or.inr ⟨by rfl, rfl⟩) hHeld ?_
        (try simp only [Act.put, List.setIfInBounds_toArray, List.set_cons_zero, List.set_cons_succ])
        refine take_at 45 93 undef rfl rfl (by kernel_rfl) (by kernel_rfl) (by kernel_rfl) (fun _ _ _ h => h) (Or.inr ⟨by rfl, rfl⟩) hHeld ?_
        (try simp only [Act.put, List.setIfInBounds_toArray, List.set_cons_zero, List.set_cons_succ])
        refine take_at 46 94 (.bool true) rfl rfl (by kernel_rfl) (by kernel_rfl) (by kernel_rfl) (fun _ _ _ h => h) (Or.inl ⟨by rfl, ?_⟩) hHeld ?_
        · intro w9 hSw
          (try dsimp only at hSw)
          go_simp
        (try simp only [Act.put, List.setIfInBounds_toArray, List.set_cons_zero, List.set_cons_succ])
        refine take_at 47 95 (.bool true) rfl rfl (by kernel_rfl) (by kernel_rfl) (by kernel_rfl) (fun _ _ _ h => h) (Or.inl ⟨by rfl, ?_⟩) hHeld ?_
        · intro w9 hSw
          (try dsimp only at hSw)
          go_simp
        (try simp only [Act.put, List.setIfInBounds_toArray, List.set_cons_zero, List.set_cons_succ])
        refine wpAnyH_ready (rs := [48]) (by kernel_rfl) (by simp) ?_
        refine AllReadyH.cons rfl (fun K hK => ?_) AllReadyH.nil
        go_simp
        refine hK.out _ _ hHeld (fun hHeld => ?_)
        clear hK K
        refine wpAnyH_done (by kernel_rfl) ?_ _
        clear hHeld
        go_wp2
        go_ret
        exact ⟨rfl, hG.q.blw⟩
    · have d1 : (t.err != 0) = true := by simp [h1]
      by_cases h2 : u.err = 0
      · have HL2 := KL2 h2
        have d2 : (u.err != 0) = false := by simp [h2]
        clear KL1 KL2 h1 h2
        have KL2 := HL2
        clear HL2
        have hG := HZ.out
        clear HZ
        go_wp2_with fail
        refine wp_region_held_drew (S := fun w' => w'.cell? ⟨xf, 0, none⟩ = some (.int .i64 f.args) ∧ w'.cell? ⟨xf, 1, none⟩ = some (.int .i64 f.regs) ∧ w'.cell? ⟨xf, 2, none⟩ = some (.slice Af f.bs.length cf) ∧ w'.cell? ⟨xp, 0, none⟩ = some (.int .i64 f.args) ∧ w'.cell? ⟨xp, 1, none⟩ = some (.int .i64 f.regs) ∧ w'.cell? ⟨xp, 2, none⟩ = some (.slice Ap f.bs.length cp) ∧ w'.cell? ⟨xp + 1, 0, none⟩ = some (.slice As t.rest.length cs) ∧ w'.cell? ⟨xp + 1, 1, none⟩ = some (.int .i64 t.err) ∧ w'.cell? ⟨xg, 0, none⟩ = some (.int .i64 g.args) ∧ w'.cell? ⟨xg, 1, none⟩ = some (.int .i64 g.regs) ∧ w'.cell? ⟨xg, 2, none⟩ = some (.int .i64 g.slots) ∧ w'.cell? ⟨xg, 3, none⟩ = some (.slice Ag g.ms.length cg) ∧ w'.cell? ⟨xq, 0, none⟩ = some (.int .i64 g.args) ∧ w'.cell? ⟨xq, 1, none⟩ = some (.int .i64 g.regs) ∧ w'.cell? ⟨xq, 2, none⟩ = some (.int .i64 g.slots) ∧ w'.cell? ⟨xq, 3, none⟩ = some (.slice Aq g.ms.length cq) ∧ w'.cell? ⟨xq + 1, 0, none⟩ = some (.slice Au u.rest.length cu) ∧ w'.cell? ⟨xq + 1, 1, none⟩ = some (.int .i64 u.err)) (by kernel_rfl) hG.drew.cells (fun hHeld => ?_)
        refine take_at 0 48 (.agg #[.int .i64 f.args, .int .i64 f.regs, .slice Af f.bs.length cf]) rfl rfl (by kernel_rfl) (by kernel_rfl) (by kernel_rfl) (fun _ _ _ h => h) (Or.inl ⟨by rfl, ?_⟩) hHeld ?_
        · intro w9 hSw
          (try dsimp only at hSw)
          go_simp
        (try simp only [Act.put, List.setIfInBounds_toArray, List.set_cons_zero, List.set_cons_succ])
        refine take_at 1 49 (.agg #[.int .i64 f.args, .int .i64 f.regs, .slice Ap f.bs.length cp]) rfl rfl (by kernel_rfl) (by kernel_rfl) (by kernel_rfl) (fun _ _ _ h => h) (Or.inl ⟨by rfl, ?_⟩) hHeld ?_
        · intro w9 hSw
          (try dsimp only at hSw)
          go_simp
        (try simp only [Act.put, List.setIfInBounds_toArray, List.set_cons_zero, List.set_cons_succ])
        refine wpAnyH_ready (rs := [2]) (by kernel_rfl) (by simp) ?_
        refine AllReadyH.cons rfl (fun K hK => ?_) AllReadyH.nil
        go_simp
        refine (K7.out _ (by first | exact hG | exact hG.drew | exact hG.drewN _)).mono ?_
        rintro e W3 ⟨rfl, hG⟩
        (try go_wp2_with fail)
        refine hK.out _ _ hG.cells (fun hHeld => ?_)
        clear hK K
        refine take_at 3 51 (.bool true) rfl rfl (by kernel_rfl) (by kernel_rfl) (by kernel_rfl) (fun _ _ _ h => h) (Or.inl ⟨by rfl, ?_⟩) hHeld ?_
        · intro w9 hSw
          (try dsimp only at hSw)
          go_simp
        (try simp only [Act.put, List.setIfInBounds_toArray, List.set_cons_zero, List.set_cons_succ])
        refine take_at 4 52 (.pointer (some ⟨p1, 0, none⟩)) rfl rfl (by kernel_rfl) (by kernel_rfl) (by kernel_rfl) (fun _ _ _ h => h) (Or.inl ⟨by rfl, ?_⟩) hHeld ?_
        · intro w9 hSw
          (try dsimp only at hSw)
          go_simp
        (try simp only [Act.put, List.setIfInBounds_toArray, List.set_cons_zero, List.set_cons_succ])
        refine take_at 6 54 (.pointer (some ⟨xp + 1, 1, none⟩)) rfl rfl (by kernel_rfl) (by kernel_rfl) (by kernel_rfl) (fun _ _ _ h => h) (Or.inl ⟨by rfl, ?_⟩) hHeld ?_
        · intro w9 hSw
          (try dsimp only at hSw)
          go_simp
        (try simp only [Act.put, List.setIfInBounds_toArray, List.set_cons_zero, List.set_cons_succ])
        refine take_at 7 55 (.int .i64 t.err) rfl rfl (by kernel_rfl) (by kernel_rfl) (by kernel_rfl) (fun _ _ _ h => h) (Or.inl ⟨by rfl, ?_⟩) hHeld ?_
        · intro w9 hSw
          (try dsimp only at hSw)
          go_simp
        (try simp only [Act.put, List.setIfInBounds_toArray, List.set_cons_zero, List.set_cons_succ])
        refine wpAnyH_ready (rs := [5]) (by kernel_rfl) (by simp) ?_
        refine AllReadyH.cons rfl (fun K hK => ?_) AllReadyH.nil
        go_simp
        refine (KE1.out _ (by first | exact hG | exact hG.drew | exact hG.drewN _)).mono ?_
        rintro e W3 ⟨rfl, hG⟩
        (try go_wp2_with fail)
        refine hK.out _ _ hG.cells (fun hHeld => ?_)
        clear hK K
        refine take_at 8 56 (.bool true) rfl rfl (by kernel_rfl) (by kernel_rfl) (by kernel_rfl) (fun _ _ _ h => h) (Or.inl ⟨by rfl, ?_⟩) hHeld ?_
        · intro w9 hSw
          (try dsimp only at hSw)
          go_simp
        (try simp only [Act.put, List.setIfInBounds_toArray, List.set_cons_zero, List.set_cons_succ])
        refine take_at 9 57 (.bool true) rfl rfl (by kernel_rfl) (by kernel_rfl) (by kernel_rfl) (fun _ _ _ h => h) (Or.inl ⟨by rfl, ?_⟩) hHeld ?_
        · intro w9 hSw
          (try dsimp only at hSw)
          go_simp
        (try simp only [Act.put, List.setIfInBounds_toArray, List.set_cons_zero, List.set_cons_succ])
        refine take_at 10 58 (.bool true) rfl rfl (by kernel_rfl) (by kernel_rfl) (by kernel_rfl) (fun _ _ _ h => h) (Or.inl ⟨by rfl, ?_⟩) hHeld ?_
        · intro w9 hSw
          (try dsimp only at hSw)
          go_simp
        (try simp only [Act.put, List.setIfInBounds_toArray, List.set_cons_zero, List.set_cons_succ])
        refine take_at 11 59 (.pointer (some ⟨xp + 1, 1, none⟩)) rfl rfl (by kernel_rfl) (by kernel_rfl) (by kernel_rfl) (fun _ _ _ h => h) (Or.inl ⟨by rfl, ?_⟩) hHeld ?_
        · intro w9 hSw
          (try dsimp only at hSw)
          go_simp
        (try simp only [Act.put, List.setIfInBounds_toArray, List.set_cons_zero, List.set_cons_succ])
        refine take_at 12 60 (.int .i64 t.err) rfl rfl (by kernel_rfl) (by kernel_rfl) (by kernel_rfl) (fun _ _ _ h => h) (Or.inl ⟨by rfl, ?_⟩) hHeld ?_
        · intro w9 hSw
          (try dsimp only at hSw)
          go_simp
        (try simp only [Act.put, List.setIfInBounds_toArray, List.set_cons_zero, List.set_cons_succ])
        refine take_at 13 61 (.bool true) rfl rfl (by kernel_rfl) (by kernel_rfl) (by kernel_rfl) (fun _ _ _ h => h) (Or.inl ⟨by rfl, ?_⟩) hHeld ?_
        · intro w9 hSw
          (try dsimp only at hSw)
          go_simp
        (try simp only [Act.put, List.setIfInBounds_toArray, List.set_cons_zero, List.set_cons_succ])
        refine take_at 14 62 (.bool true) rfl rfl (by kernel_rfl) (by kernel_rfl) (by kernel_rfl) (fun _ _ _ h => h) (Or.inl ⟨by rfl, ?_⟩) hHeld ?_
        · intro w9 hSw
          (try dsimp only at hSw)
          go_simp
        (try simp only [Act.put, List.setIfInBounds_toArray, List.set_cons_zero, List.set_cons_succ])
        refine take_at 15 63 undef rfl rfl (by kernel_rfl) (by kernel_rfl) (by kernel_rfl) (fun _ _ _ h => h) (Or.inr ⟨by rfl, rfl⟩) hHeld ?_
        (try simp only [Act.put, List.setIfInBounds_toArray, List.set_cons_zero, List.set_cons_succ])
        refine take_at 16 64 undef rfl rfl (by kernel_rfl) (by kernel_rfl) (by kernel_rfl) (fun _ _ _ h => h) (Or.inr ⟨by rfl, rfl⟩) hHeld ?_
        (try simp only [Act.put, List.setIfInBounds_toArray, List.set_cons_zero, List.set_cons_succ])
        refine take_at 17 65 undef rfl rfl (by kernel_rfl) (by kernel_rfl) (by kernel_rfl) (fun _ _ _ h => h) (Or.inr ⟨by rfl, rfl⟩) hHeld ?_
        (try simp only [Act.put, List.setIfInBounds_toArray, List.set_cons_zero, List.set_cons_succ])
        refine take_at 18 66 undef rfl rfl (by kernel_rfl) (by kernel_rfl) (by kernel_rfl) (fun _ _ _ h => h) (Or.inr ⟨by rfl, rfl⟩) hHeld ?_
        (try simp only [Act.put, List.setIfInBounds_toArray, List.set_cons_zero, List.set_cons_succ])
        refine take_at 19 67 undef rfl rfl (by kernel_rfl) (by kernel_rfl) (by kernel_rfl) (fun _ _ _ h => h) (Or.inr ⟨by rfl, rfl⟩) hHeld ?_
        (try simp only [Act.put, List.setIfInBounds_toArray, List.set_cons_zero, List.set_cons_succ])
        refine take_at 20 68 undef rfl rfl (by kernel_rfl) (by kernel_rfl) (by kernel_rfl) (fun _ _ _ h => h) (Or.inr ⟨by rfl, rfl⟩) hHeld ?_
        (try simp only [Act.put, List.setIfInBounds_toArray, List.set_cons_zero, List.set_cons_succ])
        refine take_at 21 69 (.bool true) rfl rfl (by kernel_rfl) (by kernel_rfl) (by kernel_rfl) (fun _ _ _ h => h) (Or.inl ⟨by rfl, ?_⟩) hHeld ?_
        · intro w9 hSw
          (try dsimp only at hSw)
          go_simp
        (try simp only [Act.put, List.setIfInBounds_toArray, List.set_cons_zero, List.set_cons_succ])
        refine take_at 22 70 (.bool true) rfl rfl (by kernel_rfl) (by kernel_rfl) (by kernel_rfl) (fun _ _ _ h => h) (Or.inl ⟨by rfl, ?_⟩) hHeld ?_
        · intro w9 hSw
          (try dsimp only at hSw)
          go_simp
        (try simp only [Act.put, List.setIfInBounds_toArray, List.set_cons_zero, List.set_cons_succ])
        refine take_at 23 71 (.bool true) rfl rfl (by kernel_rfl) (by kernel_rfl) (by kernel_rfl) (fun _ _ _ h => h) (Or.inl ⟨by rfl, ?_⟩) hHeld ?_
        · intro w9 hSw
          (try dsimp only at hSw)
          go_simp
        (try simp only [Act.put, List.setIfInBounds_toArray, List.set_cons_zero, List.set_cons_succ])
        refine take_at 24 72 (.agg #[.int .i64 g.args, .int .i64 g.regs, .int .i64 g.slots, .slice Ag g.ms.length cg]) rfl rfl (by kernel_rfl) (by kernel_rfl) (by kernel_rfl) (fun _ _ _ h => h) (Or.inl ⟨by rfl, ?_⟩) hHeld ?_
        · intro w9 hSw
          (try dsimp only at hSw)
          go_simp
        (try simp only [Act.put, List.setIfInBounds_toArray, List.set_cons_zero, List.set_cons_succ])
        refine take_at 25 73 (.agg #[.int .i64 g.args, .int .i64 g.regs, .int .i64 g.slots, .slice Aq g.ms.length cq]) rfl rfl (by kernel_rfl) (by kernel_rfl) (by kernel_rfl) (fun _ _ _ h => h) (Or.inl ⟨by rfl, ?_⟩) hHeld ?_
        · intro w9 hSw
          (try dsimp only at hSw)
          go_simp
        (try simp only [Act.put, List.setIfInBounds_toArray, List.set_cons_zero, List.set_cons_succ])
        refine wpAnyH_ready (rs := [26]) (by kernel_rfl) (by simp) ?_
        refine AllReadyH.cons rfl (fun K hK => ?_) AllReadyH.nil
        go_simp
        refine (K8.out _ (by first | exact hG | exact hG.drew | exact hG.drewN _)).mono ?_
        rintro e W3 ⟨rfl, hG⟩
        (try go_wp2_with fail)
        refine hK.out _ _ hG.cells (fun hHeld => ?_)
        clear hK K
        refine take_at 27 75 (.bool true) rfl rfl (by kernel_rfl) (by kernel_rfl) (by kernel_rfl) (fun _ _ _ h => h) (Or.inl ⟨by rfl, ?_⟩) hHeld ?_
        · intro w9 hSw
          (try dsimp only at hSw)
          go_simp
        (try simp only [Act.put, List.setIfInBounds_toArray, List.set_cons_zero, List.set_cons_succ])
        refine take_at 28 76 (.bool true) rfl rfl (by kernel_rfl) (by kernel_rfl) (by kernel_rfl) (fun _ _ _ h => h) (Or.inl ⟨by rfl, ?_⟩) hHeld ?_
        · intro w9 hSw
          (try dsimp only at hSw)
          go_simp
        (try simp only [Act.put, List.setIfInBounds_toArray, List.set_cons_zero, List.set_cons_succ])
        refine take_at 29 77 (.pointer (some ⟨p2, 0, none⟩)) rfl rfl (by kernel_rfl) (by kernel_rfl) (by kernel_rfl) (fun _ _ _ h => h) (Or.inl ⟨by rfl, ?_⟩) hHeld ?_
        · intro w9 hSw
          (try dsimp only at hSw)
          go_simp
        (try simp only [Act.put, List.setIfInBounds_toArray, List.set_cons_zero, List.set_cons_succ])
        refine take_at 31 79 (.pointer (some ⟨xq + 1, 1, none⟩)) rfl rfl (by kernel_rfl) (by kernel_rfl) (by kernel_rfl) (fun _ _ _ h => h) (Or.inl ⟨by rfl, ?_⟩) hHeld ?_
        · intro w9 hSw
          (try dsimp only at hSw)
          go_simp
        (try simp only [Act.put, List.setIfInBounds_toArray, List.set_cons_zero, List.set_cons_succ])
        refine take_at 32 80 (.int .i64 u.err) rfl rfl (by kernel_rfl) (by kernel_rfl) (by kernel_rfl) (fun _ _ _ h => h) (Or.inl ⟨by rfl, ?_⟩) hHeld ?_
        · intro w9 hSw
          (try dsimp only at hSw)
          go_simp
        (try simp only [Act.put, List.setIfInBounds_toArray, List.set_cons_zero, List.set_cons_succ])
        refine wpAnyH_ready (rs := [30]) (by kernel_rfl) (by simp) ?_
        refine AllReadyH.cons rfl (fun K hK => ?_) AllReadyH.nil
        go_simp
        refine (KE2.out _ (by first | exact hG | exact hG.drew | exact hG.drewN _)).mono ?_
        rintro e W3 ⟨rfl, hG⟩
        (try go_wp2_with fail)
        refine hK.out _ _ hG.cells (fun hHeld => ?_)
        clear hK K
        refine take_at 33 81 (.bool true) rfl rfl (by kernel_rfl) (by kernel_rfl) (by kernel_rfl) (fun _ _ _ h => h) (Or.inl ⟨by rfl, ?_⟩) hHeld ?_
        · intro w9 hSw
          (try dsimp only at hSw)
          go_simp
        (try simp only [Act.put, List.setIfInBounds_toArray, List.set_cons_zero, List.set_cons_succ])
        refine take_at 34 82 (.bool true) rfl rfl (by kernel_rfl) (by kernel_rfl) (by kernel_rfl) (fun _ _ _ h => h) (Or.inl ⟨by rfl, ?_⟩) hHeld ?_
        · intro w9 hSw
          (try dsimp only at hSw)
          go_simp
        (try simp only [Act.put, List.setIfInBounds_toArray, List.set_cons_zero, List.set_cons_succ])
        refine take_at 35 83 (.bool true) rfl rfl (by kernel_rfl) (by kernel_rfl) (by kernel_rfl) (fun _ _ _ h => h) (Or.inl ⟨by rfl, ?_⟩) hHeld ?_
        · intro w9 hSw
          (try dsimp only at hSw)
          go_simp
        (try simp only [Act.put, List.setIfInBounds_toArray, List.set_cons_zero, List.set_cons_succ])
        refine take_at 36 84 (.pointer (some ⟨xq + 1, 1, none⟩)) rfl rfl (by kernel_rfl) (by kernel_rfl) (by kernel_rfl) (fun _ _ _ h => h) (Or.inl ⟨by rfl, ?_⟩) hHeld ?_
        · intro w9 hSw
          (try dsimp only at hSw)
          go_simp
        (try simp only [Act.put, List.setIfInBounds_toArray, List.set_cons_zero, List.set_cons_succ])
        refine take_at 37 85 (.int .i64 u.err) rfl rfl (by kernel_rfl) (by kernel_rfl) (by kernel_rfl) (fun _ _ _ h => h) (Or.inl ⟨by rfl, ?_⟩) hHeld ?_
        · intro w9 hSw
          (try dsimp only at hSw)
          go_simp
        (try simp only [Act.put, List.setIfInBounds_toArray, List.set_cons_zero, List.set_cons_succ])
        refine take_at 38 86 (.bool false) rfl rfl (by kernel_rfl) (by kernel_rfl) (by kernel_rfl) (fun _ _ _ h => h) (Or.inl ⟨by rfl, ?_⟩) hHeld ?_
        · intro w9 hSw
          (try dsimp only at hSw)
          go_simp
        (try simp only [Act.put, List.setIfInBounds_toArray, List.set_cons_zero, List.set_cons_succ])
        refine take_at 39 87 (.bool false) rfl rfl (by kernel_rfl) (by kernel_rfl) (by kernel_rfl) (fun _ _ _ h => h) (Or.inl ⟨by rfl, ?_⟩) hHeld ?_
        · intro w9 hSw
          (try dsimp only at hSw)
          go_simp
        (try simp only [Act.put, List.setIfInBounds_toArray, List.set_cons_zero, List.set_cons_succ])
        refine take_at 40 88 (.pointer (some ⟨p2, 0, none⟩)) rfl rfl (by kernel_rfl) (by kernel_rfl) (by kernel_rfl) (fun _ _ _ h => h) (Or.inl ⟨by rfl, ?_⟩) hHeld ?_
        · intro w9 hSw
          (try dsimp only at hSw)
          go_simp
        (try simp only [Act.put, List.setIfInBounds_toArray, List.set_cons_zero, List.set_cons_succ])
        refine take_at 42 90 (.pointer (some ⟨xq + 1, 0, none⟩)) rfl rfl (by kernel_rfl) (by kernel_rfl) (by kernel_rfl) (fun _ _ _ h => h) (Or.inl ⟨by rfl, ?_⟩) hHeld ?_
        · intro w9 hSw
          (try dsimp only at hSw)
          go_simp
        (try simp only [Act.put, List.setIfInBounds_toArray, List.set_cons_zero, List.set_cons_succ])
        refine take_at 43 91 (.slice Au u.rest.length cu) rfl rfl (by kernel_rfl) (by kernel_rfl) (by kernel_rfl) (fun _ _ _ h => h) (Or.inl ⟨by rfl, ?_⟩) hHeld ?_
        · intro w9 hSw
          (try dsimp only at hSw)
          go_simp
        (try simp only [Act.put, List.setIfInBounds_toArray, List.set_cons_zero, List.set_cons_succ])
        refine take_at 44 92 (.int .i64 (u.rest.length : Int)) rfl rfl (by kernel_rfl) (by kernel_rfl) (by kernel_rfl) (fun _ _ _ h => h) (Or.inl ⟨by rfl, ?_⟩) hHeld ?_
        · intro w9 hSw
          (try dsimp only at hSw)
          go_simp
        (try simp only [Act.put, List.setIfInBounds_toArray, List.set_cons_zero, List.set_cons_succ])
        refine wpAnyH_ready (rs := [41]) (by kernel_rfl) (by simp) ?_
        refine AllReadyH.cons rfl (fun K hK => ?_) AllReadyH.nil
        go_simp
        refine (KL2.out _ (by first | exact hG | exact hG.drew | exact hG.drewN _)).mono ?_
        rintro e W3 ⟨rfl, hG⟩
        (try go_wp2_with fail)
        refine hK.out _ _ hG.cells (fun hHeld => ?_)
        clear hK K
        refine take_at 45 93 (.bool true) rfl rfl (by kernel_rfl) (by kernel_rfl) (by kernel_rfl) (fun _ _ _ h => h) (Or.inl ⟨by rfl, ?_⟩) hHeld ?_
        · intro w9 hSw
          (try dsimp only at hSw)
          go_simp
        (try simp only [Act.put, List.setIfInBounds_toArray, List.set_cons_zero, List.set_cons_succ])
        refine take_at 46 94 (.bool true) rfl rfl (by kernel_rfl) (by kernel_rfl) (by kernel_rfl) (fun _ _ _ h => h) (Or.inl ⟨by rfl, ?_⟩) hHeld ?_
        · intro w9 hSw
          (try dsimp only at hSw)
          go_simp
        (try simp only [Act.put, List.setIfInBounds_toArray, List.set_cons_zero, List.set_cons_succ])
        refine take_at 47 95 (.bool true) rfl rfl (by kernel_rfl) (by kernel_rfl) (by kernel_rfl) (fun _ _ _ h => h) (Or.inl ⟨by rfl, ?_⟩) hHeld ?_
        · intro w9 hSw
          (try dsimp only at hSw)
          go_simp
        (try simp only [Act.put, List.setIfInBounds_toArray, List.set_cons_zero, List.set_cons_succ])
        refine wpAnyH_ready (rs := [48]) (by kernel_rfl) (by simp) ?_
        refine AllReadyH.cons rfl (fun K hK => ?_) AllReadyH.nil
        go_simp
        refine hK.out _ _ hHeld (fun hHeld => ?_)
        clear hK K
        refine wpAnyH_done (by kernel_rfl) ?_ _
        clear hHeld
        go_wp2
        go_ret
        exact ⟨rfl, hG.q.blw⟩
      · have d2 : (u.err != 0) = true := by simp [h2]
        clear KL1 KL2 h1 h2
        have hG := HZ.out
        clear HZ
        go_wp2_with fail
        refine wp_region_held_drew (S := fun w' => w'.cell? ⟨xf, 0, none⟩ = some (.int .i64 f.args) ∧ w'.cell? ⟨xf, 1, none⟩ = some (.int .i64 f.regs) ∧ w'.cell? ⟨xf, 2, none⟩ = some (.slice Af f.bs.length cf) ∧ w'.cell? ⟨xp, 0, none⟩ = some (.int .i64 f.args) ∧ w'.cell? ⟨xp, 1, none⟩ = some (.int .i64 f.regs) ∧ w'.cell? ⟨xp, 2, none⟩ = some (.slice Ap f.bs.length cp) ∧ w'.cell? ⟨xp + 1, 0, none⟩ = some (.slice As t.rest.length cs) ∧ w'.cell? ⟨xp + 1, 1, none⟩ = some (.int .i64 t.err) ∧ w'.cell? ⟨xg, 0, none⟩ = some (.int .i64 g.args) ∧ w'.cell? ⟨xg, 1, none⟩ = some (.int .i64 g.regs) ∧ w'.cell? ⟨xg, 2, none⟩ = some (.int .i64 g.slots) ∧ w'.cell? ⟨xg, 3, none⟩ = some (.slice Ag g.ms.length cg) ∧ w'.cell? ⟨xq, 0, none⟩ = some (.int .i64 g.args) ∧ w'.cell? ⟨xq, 1, none⟩ = some (.int .i64 g.regs) ∧ w'.cell? ⟨xq, 2, none⟩ = some (.int .i64 g.slots) ∧ w'.cell? ⟨xq, 3, none⟩ = some (.slice Aq g.ms.length cq) ∧ w'.cell? ⟨xq + 1, 0, none⟩ = some (.slice Au u.rest.length cu) ∧ w'.cell? ⟨xq + 1, 1, none⟩ = some (.int .i64 u.err)) (by kernel_rfl) hG.drew.cells (fun hHeld => ?_)
        refine take_at 0 48 (.agg #[.int .i64 f.args, .int .i64 f.regs, .slice Af f.bs.length cf]) rfl rfl (by kernel_rfl) (by kernel_rfl) (by kernel_rfl) (fun _ _ _ h => h) (Or.inl ⟨by rfl, ?_⟩) hHeld ?_
        · intro w9 hSw
          (try dsimp only at hSw)
          go_simp
        (try simp only [Act.put, List.setIfInBounds_toArray, List.set_cons_zero, List.set_cons_succ])
        refine take_at 1 49 (.agg #[.int .i64 f.args, .int .i64 f.regs, .slice Ap f.bs.length cp]) rfl rfl (by kernel_rfl) (by kernel_rfl) (by kernel_rfl) (fun _ _ _ h => h) (Or.inl ⟨by rfl, ?_⟩) hHeld ?_
        · intro w9 hSw
          (try dsimp only at hSw)
          go_simp
        (try simp only [Act.put, List.setIfInBounds_toArray, List.set_cons_zero, List.set_cons_succ])
        refine wpAnyH_ready (rs := [2]) (by kernel_rfl) (by simp) ?_
        refine AllReadyH.cons rfl (fun K hK => ?_) AllReadyH.nil
        go_simp
        refine (K7.out _ (by first | exact hG | exact hG.drew | exact hG.drewN _)).mono ?_
        rintro e W3 ⟨rfl, hG⟩
        (try go_wp2_with fail)
        refine hK.out _ _ hG.cells (fun hHeld => ?_)
        clear hK K
        refine take_at 3 51 (.bool true) rfl rfl (by kernel_rfl) (by kernel_rfl) (by kernel_rfl) (fun _ _ _ h => h) (Or.inl ⟨by rfl, ?_⟩) hHeld ?_
        · intro w9 hSw
          (try dsimp only at hSw)
          go_simp
        (try simp only [Act.put, List.setIfInBounds_toArray, List.set_cons_zero, List.set_cons_succ])
        refine take_at 4 52 (.pointer (some ⟨p1, 0, none⟩)) rfl rfl (by kernel_rfl) (by kernel_rfl) (by kernel_rfl) (fun _ _ _ h => h) (Or.inl ⟨by rfl, ?_⟩) hHeld ?_
        · intro w9 hSw
          (try dsimp only at hSw)
          go_simp
        (try simp only [Act.put, List.setIfInBounds_toArray, List.set_cons_zero, List.set_cons_succ])
        refine take_at 6 54 (.pointer (some ⟨xp + 1, 1, none⟩)) rfl rfl (by kernel_rfl) (by kernel_rfl) (by kernel_rfl) (fun _ _ _ h => h) (Or.inl ⟨by rfl, ?_⟩) hHeld ?_
        · intro w9 hSw
          (try dsimp only at hSw)
          go_simp
        (try simp only [Act.put, List.setIfInBounds_toArray, List.set_cons_zero, List.set_cons_succ])
        refine take_at 7 55 (.int .i64 t.err) rfl rfl (by kernel_rfl) (by kernel_rfl) (by kernel_rfl) (fun _ _ _ h => h) (Or.inl ⟨by rfl, ?_⟩) hHeld ?_
        · intro w9 hSw
          (try dsimp only at hSw)
          go_simp
        (try simp only [Act.put, List.setIfInBounds_toArray, List.set_cons_zero, List.set_cons_succ])
        refine wpAnyH_ready (rs := [5]) (by kernel_rfl) (by simp) ?_
        refine AllReadyH.cons rfl (fun K hK => ?_) AllReadyH.nil
        go_simp
        refine (KE1.out _ (by first | exact hG | exact hG.drew | exact hG.drewN _)).mono ?_
        rintro e W3 ⟨rfl, hG⟩
        (try go_wp2_with fail)
        refine hK.out _ _ hG.cells (fun hHeld => ?_)
        clear hK K
        refine take_at 8 56 (.bool true) rfl rfl (by kernel_rfl) (by kernel_rfl) (by kernel_rfl) (fun _ _ _ h => h) (Or.inl ⟨by rfl, ?_⟩) hHeld ?_
        · intro w9 hSw
          (try dsimp only at hSw)
          go_simp
        (try simp only [Act.put, List.setIfInBounds_toArray, List.set_cons_zero, List.set_cons_succ])
        refine take_at 9 57 (.bool true) rfl rfl (by kernel_rfl) (by kernel_rfl) (by kernel_rfl) (fun _ _ _ h => h) (Or.inl ⟨by rfl, ?_⟩) hHeld ?_
        · intro w9 hSw
          (try dsimp only at hSw)
          go_simp
        (try simp only [Act.put, List.setIfInBounds_toArray, List.set_cons_zero, List.set_cons_succ])
        refine take_at 10 58 (.bool true) rfl rfl (by kernel_rfl) (by kernel_rfl) (by kernel_rfl) (fun _ _ _ h => h) (Or.inl ⟨by rfl, ?_⟩) hHeld ?_
        · intro w9 hSw
          (try dsimp only at hSw)
          go_simp
        (try simp only [Act.put, List.setIfInBounds_toArray, List.set_cons_zero, List.set_cons_succ])
        refine take_at 11 59 (.pointer (some ⟨xp + 1, 1, none⟩)) rfl rfl (by kernel_rfl) (by kernel_rfl) (by kernel_rfl) (fun _ _ _ h => h) (Or.inl ⟨by rfl, ?_⟩) hHeld ?_
        · intro w9 hSw
          (try dsimp only at hSw)
          go_simp
        (try simp only [Act.put, List.setIfInBounds_toArray, List.set_cons_zero, List.set_cons_succ])
        refine take_at 12 60 (.int .i64 t.err) rfl rfl (by kernel_rfl) (by kernel_rfl) (by kernel_rfl) (fun _ _ _ h => h) (Or.inl ⟨by rfl, ?_⟩) hHeld ?_
        · intro w9 hSw
          (try dsimp only at hSw)
          go_simp
        (try simp only [Act.put, List.setIfInBounds_toArray, List.set_cons_zero, List.set_cons_succ])
        refine take_at 13 61 (.bool true) rfl rfl (by kernel_rfl) (by kernel_rfl) (by kernel_rfl) (fun _ _ _ h => h) (Or.inl ⟨by rfl, ?_⟩) hHeld ?_
        · intro w9 hSw
          (try dsimp only at hSw)
          go_simp
        (try simp only [Act.put, List.setIfInBounds_toArray, List.set_cons_zero, List.set_cons_succ])
        refine take_at 14 62 (.bool true) rfl rfl (by kernel_rfl) (by kernel_rfl) (by kernel_rfl) (fun _ _ _ h => h) (Or.inl ⟨by rfl, ?_⟩) hHeld ?_
        · intro w9 hSw
          (try dsimp only at hSw)
          go_simp
        (try simp only [Act.put, List.setIfInBounds_toArray, List.set_cons_zero, List.set_cons_succ])
        refine take_at 15 63 undef rfl rfl (by kernel_rfl) (by kernel_rfl) (by kernel_rfl) (fun _ _ _ h => h) (Or.inr ⟨by rfl, rfl⟩) hHeld ?_
        (try simp only [Act.put, List.setIfInBounds_toArray, List.set_cons_zero, List.set_cons_succ])
        refine take_at 16 64 undef rfl rfl (by kernel_rfl) (by kernel_rfl) (by kernel_rfl) (fun _ _ _ h => h) (Or.inr ⟨by rfl, rfl⟩) hHeld ?_
        (try simp only [Act.put, List.setIfInBounds_toArray, List.set_cons_zero, List.set_cons_succ])
        refine take_at 17 65 undef rfl rfl (by kernel_rfl) (by kernel_rfl) (by kernel_rfl) (fun _ _ _ h => h) (Or.inr ⟨by rfl, rfl⟩) hHeld ?_
        (try simp only [Act.put, List.setIfInBounds_toArray, List.set_cons_zero, List.set_cons_succ])
        refine take_at 18 66 undef rfl rfl (by kernel_rfl) (by kernel_rfl) (by kernel_rfl) (fun _ _ _ h => h) (Or.inr ⟨by rfl, rfl⟩) hHeld ?_
        (try simp only [Act.put, List.setIfInBounds_toArray, List.set_cons_zero, List.set_cons_succ])
        refine take_at 19 67 undef rfl rfl (by kernel_rfl) (by kernel_rfl) (by kernel_rfl) (fun _ _ _ h => h) (Or.inr ⟨by rfl, rfl⟩) hHeld ?_
        (try simp only [Act.put, List.setIfInBounds_toArray, List.set_cons_zero, List.set_cons_succ])
        refine take_at 20 68 undef rfl rfl (by kernel_rfl) (by kernel_rfl) (by kernel_rfl) (fun _ _ _ h => h) (Or.inr ⟨by rfl, rfl⟩) hHeld ?_
        (try simp only [Act.put, List.setIfInBounds_toArray, List.set_cons_zero, List.set_cons_succ])
        refine take_at 21 69 (.bool true) rfl rfl (by kernel_rfl) (by kernel_rfl) (by kernel_rfl) (fun _ _ _ h => h) (Or.inl ⟨by rfl, ?_⟩) hHeld ?_
        · intro w9 hSw
          (try dsimp only at hSw)
          go_simp
        (try simp only [Act.put, List.setIfInBounds_toArray, List.set_cons_zero, List.set_cons_succ])
        refine take_at 22 70 (.bool true) rfl rfl (by kernel_rfl) (by kernel_rfl) (by kernel_rfl) (fun _ _ _ h => h) (Or.inl ⟨by rfl, ?_⟩) hHeld ?_
        · intro w9 hSw
          (try dsimp only at hSw)
          go_simp
        (try simp only [Act.put, List.setIfInBounds_toArray, List.set_cons_zero, List.set_cons_succ])
        refine take_at 23 71 (.bool true) rfl rfl (by kernel_rfl) (by kernel_rfl) (by kernel_rfl) (fun _ _ _ h => h) (Or.inl ⟨by rfl, ?_⟩) hHeld ?_
        · intro w9 hSw
          (try dsimp only at hSw)
          go_simp
        (try simp only [Act.put, List.setIfInBounds_toArray, List.set_cons_zero, List.set_cons_succ])
        refine take_at 24 72 (.agg #[.int .i64 g.args, .int .i64 g.regs, .int .i64 g.slots, .slice Ag g.ms.length cg]) rfl rfl (by kernel_rfl) (by kernel_rfl) (by kernel_rfl) (fun _ _ _ h => h) (Or.inl ⟨by rfl, ?_⟩) hHeld ?_
        · intro w9 hSw
          (try dsimp only at hSw)
          go_simp
        (try simp only [Act.put, List.setIfInBounds_toArray, List.set_cons_zero, List.set_cons_succ])
        refine take_at 25 73 (.agg #[.int .i64 g.args, .int .i64 g.regs, .int .i64 g.slots, .slice Aq g.ms.length cq]) rfl rfl (by kernel_rfl) (by kernel_rfl) (by kernel_rfl) (fun _ _ _ h => h) (Or.inl ⟨by rfl, ?_⟩) hHeld ?_
        · intro w9 hSw
          (try dsimp only at hSw)
          go_simp
        (try simp only [Act.put, List.setIfInBounds_toArray, List.set_cons_zero, List.set_cons_succ])
        refine wpAnyH_ready (rs := [26]) (by kernel_rfl) (by simp) ?_
        refine AllReadyH.cons rfl (fun K hK => ?_) AllReadyH.nil
        go_simp
        refine (K8.out _ (by first | exact hG | exact hG.drew | exact hG.drewN _)).mono ?_
        rintro e W3 ⟨rfl, hG⟩
        (try go_wp2_with fail)
        refine hK.out _ _ hG.cells (fun hHeld => ?_)
        clear hK K
        refine take_at 27 75 (.bool true) rfl rfl (by kernel_rfl) (by kernel_rfl) (by kernel_rfl) (fun _ _ _ h => h) (Or.inl ⟨by rfl, ?_⟩) hHeld ?_
        · intro w9 hSw
          (try dsimp only at hSw)
          go_simp
        (try simp only [Act.put, List.setIfInBounds_toArray, List.set_cons_zero, List.set_cons_succ])
        refine take_at 28 76 (.bool true) rfl rfl (by kernel_rfl) (by kernel_rfl) (by kernel_rfl) (fun _ _ _ h => h) (Or.inl ⟨by rfl, ?_⟩) hHeld ?_
        · intro w9 hSw
          (try dsimp only at hSw)
          go_simp
        (try simp only [Act.put, List.setIfInBounds_toArray, List.set_cons_zero, List.set_cons_succ])
        refine take_at 29 77 (.pointer (some ⟨p2, 0, none⟩)) rfl rfl (by kernel_rfl) (by kernel_rfl) (by kernel_rfl) (fun _ _ _ h => h) (Or.inl ⟨by rfl, ?_⟩) hHeld ?_
        · intro w9 hSw
          (try dsimp only at hSw)
          go_simp
        (try simp only [Act.put, List.setIfInBounds_toArray, List.set_cons_zero, List.set_cons_succ])
        refine take_at 31 79 (.pointer (some ⟨xq + 1, 1, none⟩)) rfl rfl (by kernel_rfl) (by kernel_rfl) (by kernel_rfl) (fun _ _ _ h => h) (Or.inl ⟨by rfl, ?_⟩) hHeld ?_
        · intro w9 hSw
          (try dsimp only at hSw)
          go_simp
        (try simp only [Act.put, List.setIfInBounds_toArray, List.set_cons_zero, List.set_cons_succ])
        refine take_at 32 80 (.int .i64 u.err) rfl rfl (by kernel_rfl) (by kernel_rfl) (by kernel_rfl) (fun _ _ _ h => h) (Or.inl ⟨by rfl, ?_⟩) hHeld ?_
        · intro w9 hSw
          (try dsimp only at hSw)
          go_simp
        (try simp only [Act.put, List.setIfInBounds_toArray, List.set_cons_zero, List.set_cons_succ])
        refine wpAnyH_ready (rs := [30]) (by kernel_rfl) (by simp) ?_
        refine AllReadyH.cons rfl (fun K hK => ?_) AllReadyH.nil
        go_simp
        refine (KE2.out _ (by first | exact hG | exact hG.drew | exact hG.drewN _)).mono ?_
        rintro e W3 ⟨rfl, hG⟩
        (try go_wp2_with fail)
        refine hK.out _ _ hG.cells (fun hHeld => ?_)
        clear hK K
        refine take_at 33 81 (.bool true) rfl rfl (by kernel_rfl) (by kernel_rfl) (by kernel_rfl) (fun _ _ _ h => h) (Or.inl ⟨by rfl, ?_⟩) hHeld ?_
        · intro w9 hSw
          (try dsimp only at hSw)
          go_simp
        (try simp only [Act.put, List.setIfInBounds_toArray, List.set_cons_zero, List.set_cons_succ])
        refine take_at 34 82 (.bool true) rfl rfl (by kernel_rfl) (by kernel_rfl) (by kernel_rfl) (fun _ _ _ h => h) (Or.inl ⟨by rfl, ?_⟩) hHeld ?_
        · intro w9 hSw
          (try dsimp only at hSw)
          go_simp
        (try simp only [Act.put, List.setIfInBounds_toArray, List.set_cons_zero, List.set_cons_succ])
        refine take_at 35 83 (.bool true) rfl rfl (by kernel_rfl) (by kernel_rfl) (by kernel_rfl) (fun _ _ _ h => h) (Or.inl ⟨by rfl, ?_⟩) hHeld ?_
        · intro w9 hSw
          (try dsimp only at hSw)
          go_simp
        (try simp only [Act.put, List.setIfInBounds_toArray, List.set_cons_zero, List.set_cons_succ])
        refine take_at 36 84 (.pointer (some ⟨xq + 1, 1, none⟩)) rfl rfl (by kernel_rfl) (by kernel_rfl) (by kernel_rfl) (fun _ _ _ h => h) (Or.inl ⟨by rfl, ?_⟩) hHeld ?_
        · intro w9 hSw
          (try dsimp only at hSw)
          go_simp
        (try simp only [Act.put, List.setIfInBounds_toArray, List.set_cons_zero, List.set_cons_succ])
        refine take_at 37 85 (.int .i64 u.err) rfl rfl (by kernel_rfl) (by kernel_rfl) (by kernel_rfl) (fun _ _ _ h => h) (Or.inl ⟨by rfl, ?_⟩) hHeld ?_
        · intro w9 hSw
          (try dsimp only at hSw)
          go_simp
        (try simp only [Act.put, List.setIfInBounds_toArray, List.set_cons_zero, List.set_cons_succ])
        refine take_at 38 86 (.bool true) rfl rfl (by kernel_rfl) (by kernel_rfl) (by kernel_rfl) (fun _ _ _ h => h) (Or.inl ⟨by rfl, ?_⟩) hHeld ?_
        · intro w9 hSw
          (try dsimp only at hSw)
          go_simp
        (try simp only [Act.put, List.setIfInBounds_toArray, List.set_cons_zero, List.set_cons_succ])
        refine take_at 39 87 (.bool true) rfl rfl (by kernel_rfl) (by kernel_rfl) (by kernel_rfl) (fun _ _ _ h => h) (Or.inl ⟨by rfl, ?_⟩) hHeld ?_
        · intro w9 hSw
          (try dsimp only at hSw)
          go_simp
        (try simp only [Act.put, List.setIfInBounds_toArray, List.set_cons_zero, List.set_cons_succ])
        refine take_at 40 88 undef rfl rfl (by kernel_rfl) (by kernel_rfl) (by kernel_rfl) (fun _ _ _ h => h) (Or.inr ⟨by rfl, rfl⟩) hHeld ?_
        (try simp only [Act.put, List.setIfInBounds_toArray, List.set_cons_zero, List.set_cons_succ])
        refine take_at 41 89 undef rfl rfl (by kernel_rfl) (by kernel_rfl) (by kernel_rfl) (fun _ _ _ h => h) (Or.inr ⟨by rfl, rfl⟩) hHeld ?_
        (try simp only [Act.put, List.setIfInBounds_toArray, List.set_cons_zero, List.set_cons_succ])
        refine take_at 42 90 undef rfl rfl (by kernel_rfl) (by kernel_rfl) (by kernel_rfl) (fun _ _ _ h => h) (Or.inr ⟨by rfl, rfl⟩) hHeld ?_
        (try simp only [Act.put, List.setIfInBounds_toArray, List.set_cons_zero, List.set_cons_succ])
        refine take_at 43 91 undef rfl rfl (by kernel_rfl) (by kernel_rfl) (by kernel_rfl) (fun _ _ _ h => h) (Or.inr ⟨by rfl, rfl⟩) hHeld ?_
        (try simp only [Act.put, List.setIfInBounds_toArray, List.set_cons_zero, List.set_cons_succ])
        refine take_at 44 92 undef rfl rfl (by kernel_rfl) (by kernel_rfl) (by kernel_rfl) (fun _ _ _ h => h) (Or.inr ⟨by rfl, rfl⟩) hHeld ?_
        (try simp only [Act.put, List.setIfInBounds_toArray, List.set_cons_zero, List.set_cons_succ])
        refine take_at 45 93 undef rfl rfl (by kernel_rfl) (by kernel_rfl) (by kernel_rfl) (fun _ _ _ h => h) (Or.inr ⟨by rfl, rfl⟩) hHeld ?_
        (try simp only [Act.put, List.setIfInBounds_toArray, List.set_cons_zero, List.set_cons_succ])
        refine take_at 46 94 (.bool true) rfl rfl (by kernel_rfl) (by kernel_rfl) (by kernel_rfl) (fun _ _ _ h => h) (Or.inl ⟨by rfl, ?_⟩) hHeld ?_
        · intro w9 hSw
          (try dsimp only at hSw)
          go_simp
        (try simp only [Act.put, List.setIfInBounds_toArray, List.set_cons_zero, List.set_cons_succ])
        refine take_at 47 95 (.bool true) rfl rfl (by kernel_rfl) (by kernel_rfl) (by kernel_rfl) (fun _ _ _ h => h) (Or.inl ⟨by rfl, ?_⟩) hHeld ?_
        · intro w9 hSw
          (try dsimp only at hSw)
          go_simp
        (try simp only [Act.put, List.setIfInBounds_toArray, List.set_cons_zero, List.set_cons_succ])
        refine wpAnyH_ready (rs := [48]) (by kernel_rfl) (by simp) ?_
        refine AllReadyH.cons rfl (fun K hK => ?_) AllReadyH.nil
        go_simp
        refine hK.out _ _ hHeld (fun hHeld => ?_)
        clear hK K
        refine wpAnyH_done (by kernel_rfl) ?_ _
        clear hHeld
        go_wp2
        go_ret
        exact ⟨rfl, hG.q.blw⟩

end Go.Proofs.Ytmmdhhjpbolkhaa
