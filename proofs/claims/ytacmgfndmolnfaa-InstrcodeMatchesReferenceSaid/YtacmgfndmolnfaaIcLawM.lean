/-
  The walk of InstrcodeMatchesReference.
-/
import Derived.Test.YtacmgfndmolnfaaIcLawT
import Derived.Test.YtacmgfndmolnfaaIcMach
import Derived.Test.YtacmgfndmolnfaaIcTerm
import Derived.Test.YtacmgfndmolnfaaIcSame
namespace Go.Proofs.Ytacmgfndmolnfaa
open Go.RowKit
set_option linter.unusedVariables false

theorem sameQ_true {l : List Nat} {i : Nat} {t : Ip} (hd : t.err = 0 → l.drop i = t.rest) (hi : i ≤ l.length) : sameQ l.length i t.err t = true := by
  unfold sameQ
  by_cases h : t.err = 0
  · rw [← hd h, List.length_drop, h, leftS_ok]
    simp
    omega
  · simp [h]

set_option maxRecDepth 100000 in
set_option maxHeartbeats 8000000 in
theorem InstrcodeMatchesReference_walk (a0 : Option Addr) (len0 cap0 : Nat) (z0 : List Int) (a1 a2 a3 : Int) (w : World) (w0 : IsRow .u8 w a0 len0 cap0 z0) (w1 : (Lit.int .u16 a1).wf = true) (w2 : (Lit.int .u16 a2).wf = true) (w3 : (Lit.int .u16 a3).wf = true) :
    Calls Try.prog 3 #[.slice a0 len0 cap0, .int .u16 a1, .int .u16 a2, .int .u16 a3] w fun e w' => e = .returned (.bool true) ∧ Below w.heap.size w w' := by
  obtain ⟨r0, r1⟩ := u16_of17 w1
  obtain ⟨s0, s1⟩ := u16_of17 w2
  obtain ⟨k0, k1⟩ := u16_of17 w3
  obtain ⟨l, rfl, hby, hs, hlc, hcm⟩ := w0.bytes
  clear w0 w1 w2 w3
  by_cases hlong : 1000 < l.length
  · go_enter Try.func3, Try.ntmps3
    go_wp2_with fail
    refine (awake17_any _).mono ?_
    rintro e W ⟨rfl, hb⟩
    go_wp2_with fail
    refine (awake17_any _).mono ?_
    rintro e W' ⟨rfl, hb'⟩
    go_wp2
    go_ret
    exact ⟨rfl, hb.trans (hb'.mono hb.size)⟩
  · have hlt : ¬ (1000 : Int) < l.length := by omega
    obtain ⟨i0, hi, hz0, hz1, hz2⟩ := info_parts infoU8
    go_enter Try.func3, Try.ntmps3
    go_wp2_with fail
    refine (awake17_any _).mono ?_
    rintro e W1 ⟨rfl, hb⟩
    have HB1 := Lib.hid hb
    have hs1 := Lib.hid (hs.below hb)
    clear hb
    go_wp2_with fail
    refine (new_any _ l w.heap.size _ W1 hs1.out HB1.out.size hby (by omega)).mono ?_
    rintro e W2 ⟨p1, A1, c1, rfl, hp1, hc1, hb1⟩
    have HB2 := Lib.hid (HB1.out.trans (hb1.mono HB1.out.size))
    have hs2 := Lib.hid (hs1.out.below (hb1.mono HB1.out.size))
    have HC1 := Lib.hid hc1
    have HP1 := Lib.hid (show w.heap.size ≤ p1 ∧ p1 < W2.heap.size from ⟨by have := HB1.out.size; omega, hc1.row.lt⟩)
    clear hp1 hc1 hb1 HB1 hs1
    go_wp2_with fail
    refine (new_any _ l w.heap.size _ W2 hs2.out HB2.out.size hby (by omega)).mono ?_
    rintro e W3 ⟨p2, A2, c2, rfl, hp2, hc2, hb2⟩
    have HB3 := Lib.hid (HB2.out.trans (hb2.mono HB2.out.size))
    have hs3 := Lib.hid (hs2.out.below (hb2.mono HB2.out.size))
    have D1 := Lib.hid (HC1.out.mods (S := No) (Mods.of_below hb2) fun _ h => h.elim)
    have HC2 := Lib.hid hc2
    have HP2 := Lib.hid (show p1 < p2 ∧ p2 < W3.heap.size from ⟨by have := HP1.out; omega, hc2.row.lt⟩)
    clear hp2 hc2 hb2 HB2 hs2 HC1
    go_wp2_with fail
    refine (new_any _ l w.heap.size _ W3 hs3.out HB3.out.size hby (by omega)).mono ?_
    rintro e W4 ⟨p3, A3, c3, rfl, hp3, hc3, hb3⟩
    have HB4 := Lib.hid (HB3.out.trans (hb3.mono HB3.out.size))
    have hs4 := Lib.hid ((hs3.out.below (hb3.mono HB3.out.size)).more HB4.out.size)
    have HC1 := Lib.hid (D1.out.mods (S := No) (Mods.of_below hb3) fun _ h => h.elim)
    have D2 := Lib.hid (HC2.out.mods (S := No) (Mods.of_below hb3) fun _ h => h.elim)
    have HC3 := Lib.hid hc3
    have HP3 := Lib.hid (show p2 < p3 ∧ p3 < W4.heap.size from ⟨by have := HP2.out; omega, hc3.row.lt⟩)
    clear hp3 hc3 hb3 HB3 hs3 HC2 D1
    have hs5 := hs4.out
    go_wp2_with (at_builtin; refine wpList_append_sees _ rfl (.tmp 46) (.tmp 47) 22 rfl W4.heap.size 5 i0 (.int .u8 0) 1 Try.underlying22 hi hz0 hz1 hz2 rfl _ _ _ rfl (World.ownsRow_made W4 #[] 0 (Nat.le_refl _) (by decide) rfl) W4.heap.size _ _ _ (bts l) rfl (hs5.alloc (Nat.le_refl _) _) (bts_length _) (bts_one _) ?c1 ?c2 ?c3 ?_)
    case c1 => unfold maxLen; omega
    case c2 => omega
    case c3 => simp
    intro va W5 ho5 hg5
    have hb5 : Below W4.heap.size W4 W5 := ((Below.refl _ _).alloc (Nat.le_refl _) _).grown hg5 (by simp) (fun k hk => by simp [Value.ownBlock] at hk; omega)
    replace ho5 : W5.ownsRow W4.heap.size 5 1 va l.length (bts l) := by simpa using ho5
    obtain ⟨A5, c5, rfl, hc5a, hc5b⟩ := own_slice ho5 (bts_length _)
    have HI := Lib.hid (show IpV W5 W5.heap.size A5 c5 ⟨l, 0⟩ from ⟨Sees.of_own ho5, hc5a, hc5b, hby, by show l.length ≤ 100000; omega⟩)
    have HB5 := Lib.hid (HB4.out.trans (hb5.mono HB4.out.size))
    have D1 := Lib.hid (HC1.out.mods (S := No) (Mods.of_below hb5) fun _ h => h.elim)
    have D2' := Lib.hid (D2.out.mods (S := No) (Mods.of_below hb5) fun _ h => h.elim)
    have D3 := Lib.hid (HC3.out.mods (S := No) (Mods.of_below hb5) fun _ h => h.elim)
    have HZ5 := Lib.hid hb5.size
    have HA5 := Lib.hid (show ∀ x, A5 = some x → W4.heap.size ≤ x.block from fun x hx => (own_lt ho5 x.block (by rw [hx]; rfl)).1)
    obtain ⟨m1, t1, e1⟩ : ∃ m t, instrE a1 ⟨l, 0⟩ = (m, t) := ⟨_, _, rfl⟩
    obtain ⟨m2, t2, e2⟩ : ∃ m t, machE a1 a2 ⟨l, 0⟩ = (m, t) := ⟨_, _, rfl⟩
    obtain ⟨m3, t3, e3⟩ : ∃ m t, termE a1 a3 ⟨l, 0⟩ = (m, t) := ⟨_, _, rfl⟩
    clear hs5 hs4 ho5 hg5 hb5 HB4 HC1 D2 HC3 hi hz0 hz1 hz2 hc5a hc5b hs
    have HBa := Lib.hid (HB5.out.alloc HB5.out.size (.cells #[.slice A5 l.length c5, .int .i64 0] 28))
    have E1 := Lib.hid (D1.out.alloc (.cells #[.slice A5 l.length c5, .int .i64 0] 28))
    have E2 := Lib.hid (D2'.out.alloc (.cells #[.slice A5 l.length c5, .int .i64 0] 28))
    have E3 := Lib.hid (D3.out.alloc (.cells #[.slice A5 l.length c5, .int .i64 0] 28))
    have RI := Lib.hid (Row.new W5 28 #[.slice A5 l.length c5, .int .i64 0])
    have SI := Lib.hid (HI.out.see.below ((Below.refl _ _).alloc (Nat.le_refl _) (.cells #[.slice A5 l.length c5, .int .i64 0] 28)))
    have HL5 := Lib.hid (show l.length ≤ c5 ∧ c5 ≤ maxLen from ⟨HI.out.le, HI.out.cm⟩)
    have hsz := World.size_alloc W5 (.cells #[.slice A5 l.length c5, .int .i64 0] 28)
    have HZa := Lib.hid hsz
    clear hsz HB5 D1 D2' D3 HI
    go_wp2_with fail
    generalize W5.alloc (.cells #[.slice A5 l.length c5, .int .i64 0] 28) = Wa at *
    refine (picinstr_any E1.out a1 ⟨r0, r1⟩ (m := m1) (t := t1) (by rw [List.drop_zero]; exact e1)).mono ?_
    rintro e W6 ⟨rfl, hm, i1, hc, hd1⟩
    have HBb := Lib.hid ((HBa.out.trans (hm.below HBa.out.size (fun k hk => by unfold Is at hk; have h1 := HP1.out; have h2 := HP2.out; have h3 := HP3.out; have h5 := HZ5.out; omega))).alloc (Nat.le_trans HBa.out.size hm.size) (.cells #[.int .i64 m1.op, .int .i64 m1.d, .int .i64 m1.a, .int .i64 m1.b, .int .i64 m1.imm] 30))
    have F1 := Lib.hid (hc.alloc (.cells #[.int .i64 m1.op, .int .i64 m1.d, .int .i64 m1.a, .int .i64 m1.b, .int .i64 m1.imm] 30))
    have F2 := Lib.hid (E2.out.mods (hm.alloc (.cells #[.int .i64 m1.op, .int .i64 m1.d, .int .i64 m1.a, .int .i64 m1.b, .int .i64 m1.imm] 30)) (fun k hk => by unfold Is at hk; have h1 := HP1.out; have h2 := HP2.out; have h3 := HP3.out; have h5 := HZ5.out; omega))
    have F3 := Lib.hid (E3.out.mods (hm.alloc (.cells #[.int .i64 m1.op, .int .i64 m1.d, .int .i64 m1.a, .int .i64 m1.b, .int .i64 m1.imm] 30)) (fun k hk => by unfold Is at hk; have h1 := HP1.out; have h2 := HP2.out; have h3 := HP3.out; have h5 := HZ5.out; omega))
    have RI' := Lib.hid (RI.out.mods (hm.alloc (.cells #[.int .i64 m1.op, .int .i64 m1.d, .int .i64 m1.a, .int .i64 m1.b, .int .i64 m1.imm] 30)) (fun hk => by unfold Is at hk; have h1 := HP1.out; have h2 := HP2.out; have h3 := HP3.out; have h5 := HZ5.out; omega))
    have SI' := Lib.hid ((hm.alloc (.cells #[.int .i64 m1.op, .int .i64 m1.d, .int .i64 m1.a, .int .i64 m1.b, .int .i64 m1.imm] 30)).sees SI.out (by have := HZa.out; omega) (fun x hx hk => by unfold Is at hk; have := HA5.out x hx; have h1 := HP1.out; have h2 := HP2.out; have h3 := HP3.out; have h5 := HZ5.out; omega))
    have RB1 := Lib.hid (Row.new W6 30 #[.int .i64 m1.op, .int .i64 m1.d, .int .i64 m1.a, .int .i64 m1.b, .int .i64 m1.imm])
    have HZb := Lib.hid (show Wa.heap.size ≤ W6.heap.size from hm.size)
    have HD1 := Lib.hid hd1
    have hsz := World.size_alloc W6 (.cells #[.int .i64 m1.op, .int .i64 m1.d, .int .i64 m1.a, .int .i64 m1.b, .int .i64 m1.imm] 30)
    have HZc := Lib.hid hsz
    clear hsz hm hc hd1 HBa E1 E2 E3 RI SI
    go_wp2_with fail
    generalize W6.alloc (.cells #[.int .i64 m1.op, .int .i64 m1.d, .int .i64 m1.a, .int .i64 m1.b, .int .i64 m1.imm] 30) = Wb at *
    refine (picmach_any F2.out a1 a2 ⟨r0, r1⟩ ⟨s0, s1⟩ (m := m2) (t := t2) (by rw [List.drop_zero]; exact e2)).mono ?_
    rintro e W7 ⟨rfl, hm, i2, hc, hd2⟩
    have HBc := Lib.hid ((HBb.out.trans (hm.below HBb.out.size (fun k hk => by unfold Is at hk; have h1 := HP1.out; have h2 := HP2.out; have h3 := HP3.out; have h5 := HZ5.out; have ha := HZa.out; have hb := HZb.out; have hc := HZc.out; omega))).alloc (Nat.le_trans HBb.out.size hm.size) (.cells #[.int .i64 m2.op, .int .i64 m2.d, .int .i64 m2.a, .int .i64 m2.b, .int .i64 m2.imm, .int .i64 m2.dst, .int .i64 m2.src] 34))
    have E2 := Lib.hid (hc.alloc (.cells #[.int .i64 m2.op, .int .i64 m2.d, .int .i64 m2.a, .int .i64 m2.b, .int .i64 m2.imm, .int .i64 m2.dst, .int .i64 m2.src] 34))
    have E1 := Lib.hid (F1.out.mods (hm.alloc (.cells #[.int .i64 m2.op, .int .i64 m2.d, .int .i64 m2.a, .int .i64 m2.b, .int .i64 m2.imm, .int .i64 m2.dst, .int .i64 m2.src] 34)) (fun k hk => by unfold Is at hk; have h1 := HP1.out; have h2 := HP2.out; have h3 := HP3.out; have h5 := HZ5.out; have ha := HZa.out; have hb := HZb.out; have hc := HZc.out; omega))
    have E3 := Lib.hid (F3.out.mods (hm.alloc (.cells #[.int .i64 m2.op, .int .i64 m2.d, .int .i64 m2.a, .int .i64 m2.b, .int .i64 m2.imm, .int .i64 m2.dst, .int .i64 m2.src] 34)) (fun k hk => by unfold Is at hk; have h1 := HP1.out; have h2 := HP2.out; have h3 := HP3.out; have h5 := HZ5.out; have ha := HZa.out; have hb := HZb.out; have hc := HZc.out; omega))
    have RI := Lib.hid (RI'.out.mods (hm.alloc (.cells #[.int .i64 m2.op, .int .i64 m2.d, .int .i64 m2.a, .int .i64 m2.b, .int .i64 m2.imm, .int .i64 m2.dst, .int .i64 m2.src] 34)) (fun hk => by unfold Is at hk; have h1 := HP1.out; have h2 := HP2.out; have h3 := HP3.out; have h5 := HZ5.out; have ha := HZa.out; have hb := HZb.out; have hc := HZc.out; omega))
    have RB1' := Lib.hid (RB1.out.mods (hm.alloc (.cells #[.int .i64 m2.op, .int .i64 m2.d, .int .i64 m2.a, .int .i64 m2.b, .int .i64 m2.imm, .int .i64 m2.dst, .int .i64 m2.src] 34)) (fun hk => by unfold Is at hk; have h1 := HP1.out; have h2 := HP2.out; have h3 := HP3.out; have h5 := HZ5.out; have ha := HZa.out; have hb := HZb.out; have hc := HZc.out; omega))
    have SI := Lib.hid ((hm.alloc (.cells #[.int .i64 m2.op, .int .i64 m2.d, .int .i64 m2.a, .int .i64 m2.b, .int .i64 m2.imm, .int .i64 m2.dst, .int .i64 m2.src] 34)).sees SI'.out (by have h1 := HP1.out; have h2 := HP2.out; have h3 := HP3.out; have h5 := HZ5.out; have ha := HZa.out; have hb := HZb.out; have hc := HZc.out; omega) (fun x hx hk => by unfold Is at hk; have := HA5.out x hx; have h1 := HP1.out; have h2 := HP2.out; have h3 := HP3.out; have h5 := HZ5.out; have ha := HZa.out; have hb := HZb.out; have hc := HZc.out; omega))
    have RB2 := Lib.hid (Row.new W7 34 #[.int .i64 m2.op, .int .i64 m2.d, .int .i64 m2.a, .int .i64 m2.b, .int .i64 m2.imm, .int .i64 m2.dst, .int .i64 m2.src])
    have HZd := Lib.hid (show Wb.heap.size ≤ W7.heap.size from hm.size)
    have HD2 := Lib.hid hd2
    have hsz := World.size_alloc W7 (.cells #[.int .i64 m2.op, .int .i64 m2.d, .int .i64 m2.a, .int .i64 m2.b, .int .i64 m2.imm, .int .i64 m2.dst, .int .i64 m2.src] 34)
    have HZe := Lib.hid hsz
    clear hsz hm hc hd2 HBb F1 F2 F3 RI' SI' RB1
    go_wp2_with fail
    generalize W7.alloc (.cells #[.int .i64 m2.op, .int .i64 m2.d, .int .i64 m2.a, .int .i64 m2.b, .int .i64 m2.imm, .int .i64 m2.dst, .int .i64 m2.src] 34) = Wc at *
    refine (picterm_any E3.out a1 a3 ⟨r0, r1⟩ ⟨k0, k1⟩ (m := m3) (t := t3) (by rw [List.drop_zero]; exact e3)).mono ?_
    rintro e W8 ⟨rfl, hm, i3, hc, hd3⟩
    have HBd := Lib.hid ((HBc.out.trans (hm.below HBc.out.size (fun k hk => by unfold Is at hk; have h1 := HP1.out; have h2 := HP2.out; have h3 := HP3.out; have h5 := HZ5.out; have ha := HZa.out; have hb := HZb.out; have hc := HZc.out; omega))).alloc (Nat.le_trans HBc.out.size hm.size) (.cells #[.int .i64 m3.kind, .int .i64 m3.a, .int .i64 m3.to, .int .i64 m3.el] 37))
    have F3 := Lib.hid (hc.alloc (.cells #[.int .i64 m3.kind, .int .i64 m3.a, .int .i64 m3.to, .int .i64 m3.el] 37))
    have F1 := Lib.hid (E1.out.mods (hm.alloc (.cells #[.int .i64 m3.kind, .int .i64 m3.a, .int .i64 m3.to, .int .i64 m3.el] 37)) (fun k hk => by unfold Is at hk; have h1 := HP1.out; have h2 := HP2.out; have h3 := HP3.out; have h5 := HZ5.out; have ha := HZa.out; have hb := HZb.out; have hc := HZc.out; omega))
    have F2 := Lib.hid (E2.out.mods (hm.alloc (.cells #[.int .i64 m3.kind, .int .i64 m3.a, .int .i64 m3.to, .int .i64 m3.el] 37)) (fun k hk => by unfold Is at hk; have h1 := HP1.out; have h2 := HP2.out; have h3 := HP3.out; have h5 := HZ5.out; have ha := HZa.out; have hb := HZb.out; have hc := HZc.out; omega))
    have RI' := Lib.hid (RI.out.mods (hm.alloc (.cells #[.int .i64 m3.kind, .int .i64 m3.a, .int .i64 m3.to, .int .i64 m3.el] 37)) (fun hk => by unfold Is at hk; have h1 := HP1.out; have h2 := HP2.out; have h3 := HP3.out; have h5 := HZ5.out; have ha := HZa.out; have hb := HZb.out; have hc := HZc.out; omega))
    have RB1 := Lib.hid (RB1'.out.mods (hm.alloc (.cells #[.int .i64 m3.kind, .int .i64 m3.a, .int .i64 m3.to, .int .i64 m3.el] 37)) (fun hk => by unfold Is at hk; have h1 := HP1.out; have h2 := HP2.out; have h3 := HP3.out; have h5 := HZ5.out; have ha := HZa.out; have hb := HZb.out; have hc := HZc.out; omega))
    have RB2' := Lib.hid (RB2.out.mods (hm.alloc (.cells #[.int .i64 m3.kind, .int .i64 m3.a, .int .i64 m3.to, .int .i64 m3.el] 37)) (fun hk => by unfold Is at hk; have h1 := HP1.out; have h2 := HP2.out; have h3 := HP3.out; have h5 := HZ5.out; have ha := HZa.out; have hb := HZb.out; have hc := HZc.out; have hd := HZd.out; omega))
    have HI := Lib.hid (show IpV (W8.alloc (.cells #[.int .i64 m3.kind, .int .i64 m3.a, .int .i64 m3.to, .int .i64 m3.el] 37)) W5.heap.size A5 c5 ⟨l, 0⟩ from ⟨(hm.alloc (.cells #[.int .i64 m3.kind, .int .i64 m3.a, .int .i64 m3.to, .int .i64 m3.el] 37)).sees SI.out (by have h1 := HP1.out; have h2 := HP2.out; have h3 := HP3.out; have h5 := HZ5.out; have ha := HZa.out; have hb := HZb.out; have hc := HZc.out; have hd := HZd.out; have he := HZe.out; omega) (fun x hx hk => by unfold Is at hk; have := HA5.out x hx; have h1 := HP1.out; have h2 := HP2.out; have h3 := HP3.out; have h5 := HZ5.out; have ha := HZa.out; have hb := HZb.out; have hc := HZc.out; omega), HL5.out.1, HL5.out.2, hby, by show l.length ≤ 100000; omega⟩)
    have RB3 := Lib.hid (Row.new W8 37 #[.int .i64 m3.kind, .int .i64 m3.a, .int .i64 m3.to, .int .i64 m3.el])
    have HZf := Lib.hid (show Wc.heap.size ≤ W8.heap.size from hm.size)
    have HD3 := Lib.hid hd3
    have hsz := World.size_alloc W8 (.cells #[.int .i64 m3.kind, .int .i64 m3.a, .int .i64 m3.to, .int .i64 m3.el] 37)
    have HZg := Lib.hid hsz
    have q0 := RI'.out.cell 0; have q1 := RI'.out.cell 1
    simp only [List.getElem?_toArray, List.getElem?_cons_zero, List.getElem?_cons_succ] at q0 q1
    clear hsz hm hc hd3 HBc E1 E2 E3 RI SI RB2 RB1'
    go_wp2_with fail
    generalize W8.alloc (.cells #[.int .i64 m3.kind, .int .i64 m3.a, .int .i64 m3.to, .int .i64 m3.el] 37) = Wd at *
    have C1 := Lib.hid (rinstr17_any a1 HI.out (by have h1 := HP1.out; have h2 := HP2.out; have h3 := HP3.out; have h5 := HZ5.out; have ha := HZa.out; have hb := HZb.out; have hc := HZc.out; have hd := HZd.out; have he := HZe.out; have hf := HZf.out; have hg := HZg.out; omega) ⟨r0, by omega⟩)
    rw [e1] at C1
    refine C1.out.mono ?_
    rintro e W9 ⟨Aj, cj, rfl, hip, hb⟩
    have N1 := Lib.hid hip.sm
    have hb' := (hb.alloc hb.size (.cells #[.int .i64 m1.op, .int .i64 m1.d, .int .i64 m1.a, .int .i64 m1.b, .int .i64 m1.imm] 30)).alloc (by simp; have := hb.size; omega) (.cells #[.slice Aj t1.rest.length cj, .int .i64 t1.err] 28)
    have HBe := Lib.hid (HBd.out.trans (hb'.mono HBd.out.size))
    have E1 := Lib.hid (F1.out.mods (S := No) (Mods.of_below hb') fun _ h => h.elim)
    have E2 := Lib.hid (F2.out.mods (S := No) (Mods.of_below hb') fun _ h => h.elim)
    have E3 := Lib.hid (F3.out.mods (S := No) (Mods.of_below hb') fun _ h => h.elim)
    have RI := Lib.hid (RI'.out.below hb' RI'.out.lt)
    have RC1 := Lib.hid (RB1.out.below hb' RB1.out.lt)
    have RC2 := Lib.hid (RB2'.out.below hb' RB2'.out.lt)
    have RC3 := Lib.hid (RB3.out.below hb' RB3.out.lt)
    have HI2 := Lib.hid (show IpV ((W9.alloc (.cells #[.int .i64 m1.op, .int .i64 m1.d, .int .i64 m1.a, .int .i64 m1.b, .int .i64 m1.imm] 30)).alloc (.cells #[.slice Aj t1.rest.length cj, .int .i64 t1.err] 28)) W5.heap.size A5 c5 ⟨l, 0⟩ from ⟨HI.out.see.below (hb'.mono (by have h1 := HP1.out; have h2 := HP2.out; have h3 := HP3.out; have h5 := HZ5.out; have ha := HZa.out; have hb := HZb.out; have hc := HZc.out; have hd := HZd.out; have he := HZe.out; have hf := HZf.out; have hg := HZg.out; omega)), HI.out.le, HI.out.cm, HI.out.byt, HI.out.sm⟩)
    have RJ1 := Lib.hid ((Row.new W9 30 #[.int .i64 m1.op, .int .i64 m1.d, .int .i64 m1.a, .int .i64 m1.b, .int .i64 m1.imm]).alloc (.cells #[.slice Aj t1.rest.length cj, .int .i64 t1.err] 28))
    have RP1 := Lib.hid (by have := Row.new (W9.alloc (.cells #[.int .i64 m1.op, .int .i64 m1.d, .int .i64 m1.a, .int .i64 m1.b, .int .i64 m1.imm] 30)) 28 #[.slice Aj t1.rest.length cj, .int .i64 t1.err]; rwa [World.size_alloc] at this)
    have HZh := Lib.hid (show Wd.heap.size ≤ W9.heap.size from hb.size)
    clear q0 q1
    have q0 := RI.out.cell 0; have q1 := RI.out.cell 1
    simp only [List.getElem?_toArray, List.getElem?_cons_zero, List.getElem?_cons_succ] at q0 q1
    clear hip hb hb' C1 HBd F1 F2 F3 RI' RB1 RB2' RB3 HI
    go_wp2_with fail
    have hsz1 := World.size_alloc W9 (.cells #[.int .i64 m1.op, .int .i64 m1.d, .int .i64 m1.a, .int .i64 m1.b, .int .i64 m1.imm] 30)
    have hsz2 := World.size_alloc (W9.alloc (.cells #[.int .i64 m1.op, .int .i64 m1.d, .int .i64 m1.a, .int .i64 m1.b, .int .i64 m1.imm] 30)) (.cells #[.slice Aj t1.rest.length cj, .int .i64 t1.err] 28)
    have HZi := Lib.hid (hsz2.trans (congrArg (· + 1) hsz1))
    clear hsz1 hsz2
    generalize (W9.alloc (.cells #[.int .i64 m1.op, .int .i64 m1.d, .int .i64 m1.a, .int .i64 m1.b, .int .i64 m1.imm] 30)).alloc (.cells #[.slice Aj t1.rest.length cj, .int .i64 t1.err] 28) = We at *
    have C1 := Lib.hid (rmach17_any a1 a2 HI2.out (by have h1 := HP1.out; have h2 := HP2.out; have h3 := HP3.out; have h5 := HZ5.out; have ha := HZa.out; have hb := HZb.out; have hc := HZc.out; have hd := HZd.out; have he := HZe.out; have hf := HZf.out; have hg := HZg.out; have hh := HZh.out; have hi := HZi.out; omega) ⟨r0, by omega⟩)
    rw [e2] at C1
    refine C1.out.mono ?_
    rintro e W10 ⟨Ak, ck, rfl, hip, hb⟩
    have N2 := Lib.hid hip.sm
    have hb' := (hb.alloc hb.size (.cells #[.int .i64 m2.op, .int .i64 m2.d, .int .i64 m2.a, .int .i64 m2.b, .int .i64 m2.imm, .int .i64 m2.dst, .int .i64 m2.src] 34)).alloc (by simp; have := hb.size; omega) (.cells #[.slice Ak t2.rest.length ck, .int .i64 t2.err] 28)
    have HBf := Lib.hid (HBe.out.trans (hb'.mono HBe.out.size))
    have F1 := Lib.hid (E1.out.mods (S := No) (Mods.of_below hb') fun _ h => h.elim)
    have F2 := Lib.hid (E2.out.mods (S := No) (Mods.of_below hb') fun _ h => h.elim)
    have F3 := Lib.hid (E3.out.mods (S := No) (Mods.of_below hb') fun _ h => h.elim)
    have RI' := Lib.hid (RI.out.below hb' RI.out.lt)
    have RB1 := Lib.hid (RC1.out.below hb' RC1.out.lt)
    have RB2 := Lib.hid (RC2.out.below hb' RC2.out.lt)
    have RB3 := Lib.hid (RC3.out.below hb' RC3.out.lt)
    have RK1 := Lib.hid (RJ1.out.below hb' RJ1.out.lt)
    have RQ1 := Lib.hid (RP1.out.below hb' RP1.out.lt)
    have HI := Lib.hid (show IpV ((W10.alloc (.cells #[.int .i64 m2.op, .int .i64 m2.d, .int .i64 m2.a, .int .i64 m2.b, .int .i64 m2.imm, .int .i64 m2.dst, .int .i64 m2.src] 34)).alloc (.cells #[.slice Ak t2.rest.length ck, .int .i64 t2.err] 28)) W5.heap.size A5 c5 ⟨l, 0⟩ from ⟨HI2.out.see.below (hb'.mono (by have h1 := HP1.out; have h2 := HP2.out; have h3 := HP3.out; have h5 := HZ5.out; have ha := HZa.out; have hb := HZb.out; have hc := HZc.out; have hd := HZd.out; have he := HZe.out; have hf := HZf.out; have hg := HZg.out; have hh := HZh.out; have hi := HZi.out; omega)), HI2.out.le, HI2.out.cm, HI2.out.byt, HI2.out.sm⟩)
    have RJ2 := Lib.hid ((Row.new W10 34 #[.int .i64 m2.op, .int .i64 m2.d, .int .i64 m2.a, .int .i64 m2.b, .int .i64 m2.imm, .int .i64 m2.dst, .int .i64 m2.src]).alloc (.cells #[.slice Ak t2.rest.length ck, .int .i64 t2.err] 28))
    have RP2 := Lib.hid (by have := Row.new (W10.alloc (.cells #[.int .i64 m2.op, .int .i64 m2.d, .int .i64 m2.a, .int .i64 m2.b, .int .i64 m2.imm, .int .i64 m2.dst, .int .i64 m2.src] 34)) 28 #[.slice Ak t2.rest.length ck, .int .i64 t2.err]; rwa [World.size_alloc] at this)
    have HZj := Lib.hid (show We.heap.size ≤ W10.heap.size from hb.size)
    clear q0 q1
    have q0 := RI'.out.cell 0; have q1 := RI'.out.cell 1
    simp only [List.getElem?_toArray, List.getElem?_cons_zero, List.getElem?_cons_succ] at q0 q1
    clear hip hb hb' C1 HBe E1 E2 E3 RI RC1 RC2 RC3 RJ1 RP1 HI2
    go_wp2_with fail
    have hsz1 := World.size_alloc W10 (.cells #[.int .i64 m2.op, .int .i64 m2.d, .int .i64 m2.a, .int .i64 m2.b, .int .i64 m2.imm, .int .i64 m2.dst, .int .i64 m2.src] 34)
    have hsz2 := World.size_alloc (W10.alloc (.cells #[.int .i64 m2.op, .int .i64 m2.d, .int .i64 m2.a, .int .i64 m2.b, .int .i64 m2.imm, .int .i64 m2.dst, .int .i64 m2.src] 34)) (.cells #[.slice Ak t2.rest.length ck, .int .i64 t2.err] 28)
    have HZk := Lib.hid (hsz2.trans (congrArg (· + 1) hsz1))
    clear hsz1 hsz2
    generalize (W10.alloc (.cells #[.int .i64 m2.op, .int .i64 m2.d, .int .i64 m2.a, .int .i64 m2.b, .int .i64 m2.imm, .int .i64 m2.dst, .int .i64 m2.src] 34)).alloc (.cells #[.slice Ak t2.rest.length ck, .int .i64 t2.err] 28) = Wf at *
    have C1 := Lib.hid (rterm17_any a1 a3 HI.out (by have h1 := HP1.out; have h2 := HP2.out; have h3 := HP3.out; have h5 := HZ5.out; have ha := HZa.out; have hb := HZb.out; have hc := HZc.out; have hd := HZd.out; have he := HZe.out; have hf := HZf.out; have hg := HZg.out; have hh := HZh.out; have hi := HZi.out; have hj := HZj.out; have hk := HZk.out; omega) ⟨r0, by omega⟩ ⟨k0, by omega⟩)
    rw [e3] at C1
    refine C1.out.mono ?_
    rintro e W11 ⟨Al, cl, rfl, hip, hb⟩
    have N3 := Lib.hid hip.sm
    have hb' := (hb.alloc hb.size (.cells #[.int .i64 m3.kind, .int .i64 m3.a, .int .i64 m3.to, .int .i64 m3.el] 37)).alloc (by simp; have := hb.size; omega) (.cells #[.slice Al t3.rest.length cl, .int .i64 t3.err] 28)
    have HBg := Lib.hid (HBf.out.trans (hb'.mono HBf.out.size))
    have E1 := Lib.hid (F1.out.mods (S := No) (Mods.of_below hb') fun _ h => h.elim)
    have E2 := Lib.hid (F2.out.mods (S := No) (Mods.of_below hb') fun _ h => h.elim)
    have E3 := Lib.hid (F3.out.mods (S := No) (Mods.of_below hb') fun _ h => h.elim)
    have RC1 := Lib.hid (RB1.out.below hb' RB1.out.lt)
    have RC2 := Lib.hid (RB2.out.below hb' RB2.out.lt)
    have RC3 := Lib.hid (RB3.out.below hb' RB3.out.lt)
    have RJ1 := Lib.hid (RK1.out.below hb' RK1.out.lt)
    have RP1 := Lib.hid (RQ1.out.below hb' RQ1.out.lt)
    have RK2 := Lib.hid (RJ2.out.below hb' RJ2.out.lt)
    have RQ2 := Lib.hid (RP2.out.below hb' RP2.out.lt)
    have RJ3 := Lib.hid ((Row.new W11 37 #[.int .i64 m3.kind, .int .i64 m3.a, .int .i64 m3.to, .int .i64 m3.el]).alloc (.cells #[.slice Al t3.rest.length cl, .int .i64 t3.err] 28))
    have RP3 := Lib.hid (by have := Row.new (W11.alloc (.cells #[.int .i64 m3.kind, .int .i64 m3.a, .int .i64 m3.to, .int .i64 m3.el] 37)) 28 #[.slice Al t3.rest.length cl, .int .i64 t3.err]; rwa [World.size_alloc] at this)
    have G1 := Lib.hid (sameQ_true HD1.out E1.out.le)
    have G2 := Lib.hid (sameQ_true HD2.out E2.out.le)
    have G3 := Lib.hid (sameQ_true HD3.out E3.out.le)
    clear q0 q1
    have c1_0 := RC1.out.cell 0
    have c1_1 := RC1.out.cell 1
    have c1_2 := RC1.out.cell 2
    have c1_3 := RC1.out.cell 3
    have c1_4 := RC1.out.cell 4
    have j1_0 := RJ1.out.cell 0
    have j1_1 := RJ1.out.cell 1
    have j1_2 := RJ1.out.cell 2
    have j1_3 := RJ1.out.cell 3
    have j1_4 := RJ1.out.cell 4
    have x1_0 := RP1.out.cell 0
    have x1_1 := RP1.out.cell 1
    simp only [List.getElem?_toArray, List.getElem?_cons_zero, List.getElem?_cons_succ] at c1_0 c1_1 c1_2 c1_3 c1_4 j1_0 j1_1 j1_2 j1_3 j1_4 x1_0 x1_1
    clear hip hb hb' C1 HBf F1 F2 F3 RI' RB1 RB2 RB3 RK1 RQ1 RJ2 RP2 HI HD1 HD2 HD3
    go_wp2_with fail
    have C1 := Lib.hid (same17_any (t := t1) (A' := Aj) (c' := cj) E1.out (by have := N1.out; omega))
    rw [G1.out] at C1
    refine C1.out.mono ?_
    rintro e V1 ⟨rfl, hb⟩
    have HV1 := Lib.hid (HBg.out.trans (hb.mono HBg.out.size))
    have F2 := Lib.hid (E2.out.mods (S := No) (Mods.of_below hb) fun _ h => h.elim)
    have F3 := Lib.hid (E3.out.mods (S := No) (Mods.of_below hb) fun _ h => h.elim)
    have RB2 := Lib.hid (RC2.out.below hb RC2.out.lt)
    have RB3 := Lib.hid (RC3.out.below hb RC3.out.lt)
    have RJ2 := Lib.hid (RK2.out.below hb RK2.out.lt)
    have RP2 := Lib.hid (RQ2.out.below hb RQ2.out.lt)
    have RK3 := Lib.hid (RJ3.out.below hb RJ3.out.lt)
    have RQ3 := Lib.hid (RP3.out.below hb RP3.out.lt)
    clear c1_0 c1_1 c1_2 c1_3 c1_4 j1_0 j1_1 j1_2 j1_3 j1_4 x1_0 x1_1
    have c1_0 := RB2.out.cell 0
    have c1_1 := RB2.out.cell 1
    have c1_2 := RB2.out.cell 2
    have c1_3 := RB2.out.cell 3
    have c1_4 := RB2.out.cell 4
    have c1_5 := RB2.out.cell 5
    have c1_6 := RB2.out.cell 6
    have j1_0 := RJ2.out.cell 0
    have j1_1 := RJ2.out.cell 1
    have j1_2 := RJ2.out.cell 2
    have j1_3 := RJ2.out.cell 3
    have j1_4 := RJ2.out.cell 4
    have j1_5 := RJ2.out.cell 5
    have j1_6 := RJ2.out.cell 6
    have x1_0 := RP2.out.cell 0
    have x1_1 := RP2.out.cell 1
    simp only [List.getElem?_toArray, List.getElem?_cons_zero, List.getElem?_cons_succ] at c1_0 c1_1 c1_2 c1_3 c1_4 c1_5 c1_6 j1_0 j1_1 j1_2 j1_3 j1_4 j1_5 j1_6 x1_0 x1_1
    clear hb C1 HBg E1 E2 E3 RC1 RC2 RC3 RJ1 RP1 RK2 RQ2 RJ3 RP3
    go_wp2_with fail
    have C2 := Lib.hid (same17_any (t := t2) (A' := Ak) (c' := ck) F2.out (by have := N2.out; omega))
    rw [G2.out] at C2
    refine C2.out.mono ?_
    rintro e V2 ⟨rfl, hb⟩
    have HV2 := Lib.hid (HV1.out.trans (hb.mono HV1.out.size))
    have E3 := Lib.hid (F3.out.mods (S := No) (Mods.of_below hb) fun _ h => h.elim)
    have RC3 := Lib.hid (RB3.out.below hb RB3.out.lt)
    have RJ3 := Lib.hid (RK3.out.below hb RK3.out.lt)
    have RP3 := Lib.hid (RQ3.out.below hb RQ3.out.lt)
    clear c1_0 c1_1 c1_2 c1_3 c1_4 c1_5 c1_6 j1_0 j1_1 j1_2 j1_3 j1_4 j1_5 j1_6 x1_0 x1_1
    have c1_0 := RC3.out.cell 0
    have c1_1 := RC3.out.cell 1
    have c1_2 := RC3.out.cell 2
    have c1_3 := RC3.out.cell 3
    have j1_0 := RJ3.out.cell 0
    have j1_1 := RJ3.out.cell 1
    have j1_2 := RJ3.out.cell 2
    have j1_3 := RJ3.out.cell 3
    have x1_0 := RP3.out.cell 0
    have x1_1 := RP3.out.cell 1
    simp only [List.getElem?_toArray, List.getElem?_cons_zero, List.getElem?_cons_succ] at c1_0 c1_1 c1_2 c1_3 j1_0 j1_1 j1_2 j1_3 x1_0 x1_1
    clear hb C2 HV1 F2 F3 RB2 RB3 RJ2 RP2 RK3 RQ3
    go_wp2_with fail
    have C3 := Lib.hid (same17_any (t := t3) (A' := Al) (c' := cl) E3.out (by have := N3.out; omega))
    rw [G3.out] at C3
    refine C3.out.mono ?_
    rintro e V3 ⟨rfl, hb⟩
    go_wp2
    go_ret
    exact ⟨rfl, HV2.out.trans (hb.mono HV2.out.size)⟩

end Go.Proofs.Ytacmgfndmolnfaa
