/-
  The walk of WitnessMatchesReference (made by wip/lab/genwnlawm.py).
-/
import Derived.Test.YthehcdajedaefaaWnLawT
import Derived.Test.YthehcdajedaefaaWnRg
namespace Go.Proofs.Ythehcdajedaefaa
open Go.RowKit
set_option linter.unusedVariables false
set_option linter.unusedSimpArgs false

/-- What the last region holds. -/
structure WZ (w : World) (l : List Nat) (lo p : Nat) (A1 : Option Addr) (c1 i1 : Nat) (t : Ip) (xs : List (List Pr)) (bg : Nat) (Ag : Option Addr) (cg bp : Nat) (Ap : Option Addr) (cp xp : Nat) (As : Option Addr) (cs : Nat) (W : World) : Prop where
  blw : Below w.heap.size w W
  cur : Cur W lo p l i1 t.err A1 c1
  g : SeesPP W bg Ag xs
  m : SeesPP W bp Ap xs
  hg : bg ≤ W.heap.size
  hm : bp ≤ W.heap.size
  s : Row W xp 30 #[.slice As t.rest.length cs, .int .i64 t.err]

theorem WZ.next {w : World} {l : List Nat} {lo p : Nat} {A1 : Option Addr} {c1 i1 : Nat} {t : Ip} {xs : List (List Pr)} {bg : Nat} {Ag : Option Addr} {cg bp : Nat} {Ap : Option Addr} {cp xp : Nat} {As : Option Addr} {cs : Nat} {W W' : World} (h : WZ w l lo p A1 c1 i1 t xs bg Ag cg bp Ap cp xp As cs W) (hb : Below W.heap.size W W') : WZ w l lo p A1 c1 i1 t xs bg Ag cg bp Ap cp xp As cs W' :=
  ⟨h.blw.trans (hb.mono h.blw.size), h.cur.mods (S := No) (Mods.of_below hb) fun _ h => h.elim, h.g.below (hb.mono h.hg), h.m.below (hb.mono h.hm), Nat.le_trans h.hg hb.size, Nat.le_trans h.hm hb.size, h.s.below hb h.s.lt⟩

theorem WZ.drewN {w : World} {l : List Nat} {lo p : Nat} {A1 : Option Addr} {c1 i1 : Nat} {t : Ip} {xs : List (List Pr)} {bg : Nat} {Ag : Option Addr} {cg bp : Nat} {Ap : Option Addr} {cp xp : Nat} {As : Option Addr} {cs : Nat} {W : World} (h : WZ w l lo p A1 c1 i1 t xs bg Ag cg bp Ap cp xp As cs W) (n : Nat) : WZ w l lo p A1 c1 i1 t xs bg Ag cg bp Ap cp xp As cs (W.drewN n) :=
  h.next (let b := Below.refl W.heap.size W; ⟨b.os, b.tape, b.output, b.size, b.block⟩)

theorem WZ.drew {w : World} {l : List Nat} {lo p : Nat} {A1 : Option Addr} {c1 i1 : Nat} {t : Ip} {xs : List (List Pr)} {bg : Nat} {Ag : Option Addr} {cg bp : Nat} {Ap : Option Addr} {cp xp : Nat} {As : Option Addr} {cs : Nat} {W : World} (h : WZ w l lo p A1 c1 i1 t xs bg Ag cg bp Ap cp xp As cs W) : WZ w l lo p A1 c1 i1 t xs bg Ag cg bp Ap cp xp As cs W.drew :=
  h.next (let b := Below.refl W.heap.size W; ⟨b.os, b.tape, b.output, b.size, b.block⟩)

theorem WZ.cells {w : World} {l : List Nat} {lo p : Nat} {A1 : Option Addr} {c1 i1 : Nat} {t : Ip} {xs : List (List Pr)} {bg : Nat} {Ag : Option Addr} {cg bp : Nat} {Ap : Option Addr} {cp xp : Nat} {As : Option Addr} {cs : Nat} {W : World} (h : WZ w l lo p A1 c1 i1 t xs bg Ag cg bp Ap cp xp As cs W) : W.cell? ⟨xp, 0, none⟩ = some (.slice As t.rest.length cs) ∧ W.cell? ⟨xp, 1, none⟩ = some (.int .i64 t.err) := ⟨h.s.cell 0, h.s.cell 1⟩

set_option maxRecDepth 100000 in
set_option maxHeartbeats 8000000 in
theorem WitnessMatchesReference_walk (a0 : Option Addr) (len0 cap0 : Nat) (z0 : List Int) (a1 a2 a3 a4 : Int) (w : World) (w0 : IsRow .u8 w a0 len0 cap0 z0) (w1 : (Lit.int .u8 a1).wf = true) (w2 : (Lit.int .u16 a2).wf = true) (w3 : (Lit.int .u16 a3).wf = true) (w4 : (Lit.int .u16 a4).wf = true) :
    Calls Try.prog 3 #[.slice a0 len0 cap0, .int .u8 a1, .int .u16 a2, .int .u16 a3, .int .u16 a4] w fun e w' => e = .returned (.bool true) ∧ Below w.heap.size w w' := by
  obtain ⟨l, rfl, hby, hs, hlc, hcm⟩ := w0.bytes
  obtain ⟨k0, k1⟩ := u8_of19 w1
  obtain ⟨k2, k3⟩ := u16_of19 w2
  obtain ⟨k4, k5⟩ := u16_of19 w3
  obtain ⟨k6, k7⟩ := u16_of19 w4
  clear w0 w1 w2 w3 w4
  by_cases hlong : 2000 < l.length
  · go_enter Try.func3, Try.ntmps3
    go_wp2_with fail
    refine (awake19_any _).mono ?_
    rintro e W ⟨rfl, hb⟩
    go_wp2_with fail
    refine (awake19_any _).mono ?_
    rintro e W' ⟨rfl, hb'⟩
    go_wp2
    go_ret
    exact ⟨rfl, hb.trans (hb'.mono hb.size)⟩
  · have hlt : ¬ (2000 : Int) < l.length := by omega
    obtain ⟨i0, hi, hz0, hz1, hz2⟩ := info_parts infoU8
    obtain ⟨⟨xs, t⟩, hF⟩ : ∃ y, getE19 a2 a3 a4 a1.toNat ⟨l, 0⟩ = y := ⟨_, rfl⟩
    have EF := Lib.hid hF
    have hxl : xs.length ≤ 255 := by
      by_cases he : (getE19 a2 a3 a4 a1.toNat ⟨l, 0⟩).2.err = 0
      · have h9 := (getE19_ok (s := ⟨l, 0⟩) hby he).2.1
        rw [hF] at h9
        have h8 : (xs.length : Int) = (a1.toNat : Int) := (validE_vls h9).1
        rw [Int.toNat_of_nonneg k0] at h8
        omega
      · have h9 := getE19_bad he
        rw [hF] at h9
        have h8 : xs = [] := h9
        rw [h8]
        exact Nat.zero_le _
    have HXL := Lib.hid hxl
    clear hF hxl
    go_enter Try.func3, Try.ntmps3
    go_wp2_with fail
    refine (awake19_any _).mono ?_
    rintro e W1 ⟨rfl, hb⟩
    have HB1 := Lib.hid hb
    have hs1 := Lib.hid (hs.below hb)
    clear hb hs
    go_wp2_with fail
    refine (new_any _ l w.heap.size _ W1 hs1.out HB1.out.size hby (by omega)).mono ?_
    rintro e W2 ⟨p1, A1, c1, rfl, hp1, hc1, hb1⟩
    have HB2 := Lib.hid (HB1.out.trans (hb1.mono HB1.out.size))
    have hs2 := Lib.hid (hs1.out.below (hb1.mono HB1.out.size))
    have HC1 := Lib.hid hc1
    have HP1 := Lib.hid (show w.heap.size ≤ p1 ∧ p1 < W2.heap.size from ⟨by have := HB1.out.size; omega, hc1.row.lt⟩)
    clear hp1 hc1 hb1 HB1 hs1
    have C1 := Lib.hid (pget19_any HC1.out (m := a1) (by omega) ⟨k0, by omega⟩ ⟨k2, by omega⟩ ⟨k4, by omega⟩ ⟨k6, by omega⟩ (xs := xs) (t := t) (by rw [List.drop_zero]; exact EF.out))
    go_wp2_with fail
    refine C1.out.mono ?_
    rintro e W4 ⟨v, vs, rfl, hn, hm, i1, hc, hd⟩
    obtain ⟨Af, cf, rfl, hf1, hf2, hpp⟩ := nest_pp hn
    have hbm := hm.below HB2.out.size (fun k hk => by unfold Is at hk; have := HP1.out; omega)
    have HB4 := Lib.hid (HB2.out.trans hbm)
    have hs4 := Lib.hid ((hs2.out.below hbm).more (HB2.out.trans hbm).size)
    have F1 := Lib.hid hc
    have HS1 := Lib.hid hpp
    have HD := Lib.hid hd
    clear hbm hn hm hc hd hpp C1 HC1 HB2 hs2 hf1 hf2
    have hs5 := hs4.out
    go_wp2_with (at_builtin; refine wpList_append_sees _ rfl (.tmp 38) (.tmp 39) 22 rfl W4.heap.size 5 i0 (.int .u8 0) 1 Try.underlying22 hi hz0 hz1 hz2 rfl _ _ _ rfl (World.ownsRow_made W4 #[] 0 (Nat.le_refl _) (by decide) rfl) W4.heap.size _ _ _ (bts l) rfl (hs5.alloc (Nat.le_refl _) _) (bts_length _) (bts_one _) ?c1 ?c2 ?c3 ?_)
    case c1 => unfold maxLen; omega
    case c2 => omega
    case c3 => simp
    intro va W5 ho5 hg5
    have hb5 : Below W4.heap.size W4 W5 := ((Below.refl _ _).alloc (Nat.le_refl _) _).grown hg5 (by simp) (fun k hk => by simp [Value.ownBlock] at hk; omega)
    replace ho5 : W5.ownsRow W4.heap.size 5 1 va l.length (bts l) := by simpa using ho5
    obtain ⟨A5, c5, rfl, hc5a, hc5b⟩ := own_slice ho5 (bts_length _)
    have HIV : Hid (IpV W5 W5.heap.size A5 c5 ⟨l, 0⟩) := ⟨Sees.of_own ho5, hc5a, hc5b, hby, by show l.length ≤ 100000; omega⟩
    have C3 : Hid (Calls Try.prog 10 #[.agg #[.slice A5 l.length c5, .int .i64 0], .int .i64 a1, .int .i64 a2, .int .i64 a3, .int .i64 a4] W5 (RGW W5 W5.heap.size xs t)) := by
      have h9 := rget19_any (m := a1) (vr := a2) (r := a3) (n := a4) HIV.out (Nat.le_refl _) ⟨k0, by omega⟩ ⟨k2, by omega⟩ (by omega) (by omega)
      rw [EF.out] at h9
      exact h9
    have HB5 := Lib.hid (HB4.out.trans (hb5.mono HB4.out.size))
    have F5 := Lib.hid (F1.out.mods (S := No) (Mods.of_below hb5) fun _ h => h.elim)
    have HS5 := Lib.hid (HS1.out.below hb5)
    have HZ5 := Lib.hid hb5.size
    clear hs5 hs4 ho5 hg5 hb5 HB4 F1 HS1 hi hz0 hz1 hz2 hc5a hc5b HIV
    go_wp2_with fail
    refine C3.out.mono ?_
    rintro e W9 ⟨v, vp, As, cs, rfl, hn, hip, hb⟩
    obtain ⟨Ap, cp, rfl, _, _, hpp⟩ := nest_pp hn
    have hb' := hb.alloc hb.size (.cells #[.slice As t.rest.length cs, .int .i64 t.err] 30)
    have HZ : Hid (WZ w l W1.heap.size p1 A1 c1 i1 t xs W4.heap.size Af cf W9.heap.size Ap cp W9.heap.size As cs (W9.alloc (.cells #[.slice As t.rest.length cs, .int .i64 t.err] 30))) :=
      ⟨HB5.out.trans (hb'.mono HB5.out.size), F5.out.mods (S := No) (Mods.of_below hb') fun _ h => h.elim, HS5.out.below (hb'.mono HZ5.out), hpp.alloc (Nat.le_refl _) _, Nat.le_trans HZ5.out hb'.size, by simp, Row.new _ _ _⟩
    clear hb hb' hn hip hpp C3 HB5 F5 HS5 HZ5
    go_upto_region 8 with fail
    generalize (W9.alloc (.cells #[.slice As t.rest.length cs, .int .i64 t.err] 30)) = V at *
    have KS : Hid (∀ W, WZ w l W1.heap.size p1 A1 c1 i1 t xs W4.heap.size Af cf W9.heap.size Ap cp W9.heap.size As cs W → Calls Try.prog 11 #[.slice Af xs.length cf, .slice Ap xs.length cp] W fun e w' => e = .returned (.bool true) ∧ WZ w l W1.heap.size p1 A1 c1 i1 t xs W4.heap.size Af cf W9.heap.size Ap cp W9.heap.size As cs w') := fun W h => (rsame15_any W.heap.size Af Ap xs cf cp W (h.g.more h.hg) (h.m.more h.hm) (Nat.le_refl _) (Nat.le_trans HXL.out (by decide))).mono fun e w' ⟨he, hb⟩ => ⟨he, h.next hb.below⟩
    have KE : Hid (∀ W, WZ w l W1.heap.size p1 A1 c1 i1 t xs W4.heap.size Af cf W9.heap.size Ap cp W9.heap.size As cs W → Calls Try.prog 12 #[.pointer (some ⟨p1, 0, none⟩)] W fun e w' => e = .returned (.int .i64 t.err) ∧ WZ w l W1.heap.size p1 A1 c1 i1 t xs W4.heap.size Af cf W9.heap.size Ap cp W9.heap.size As cs w') := fun W h => (err_any h.cur).mono fun e w' ⟨he, hb⟩ => ⟨he, hb ▸ h⟩
    have KL : t.err = 0 → Hid (∀ W, WZ w l W1.heap.size p1 A1 c1 i1 t xs W4.heap.size Af cf W9.heap.size Ap cp W9.heap.size As cs W → Calls Try.prog 13 #[.pointer (some ⟨p1, 0, none⟩)] W fun e w' => e = .returned (.int .i64 (t.rest.length : Int)) ∧ WZ w l W1.heap.size p1 A1 c1 i1 t xs W4.heap.size Af cf W9.heap.size Ap cp W9.heap.size As cs w') := fun h0 W h => (left_any h.cur).mono fun e w' ⟨he, n, hb⟩ => ⟨by
      have h1 := congrArg List.length (HD.out h0)
      have h2 := h.cur.le
      rw [List.length_drop] at h1
      rw [he, h0, leftS_ok]
      rw [show (l.length : Int) - i1 = (t.rest.length : Int) by omega], hb ▸ h.drewN n⟩
    clear EF
    by_cases h1 : t.err = 0
    · have HL1 := KL h1
      have d1 : (t.err != 0) = false := by simp [h1]
      clear KL h1
      have KL := HL1
      clear HL1
      have hG := HZ.out
      clear HZ
      go_wp2_with fail
      refine wp_region_held_drew (S := fun w' => w'.cell? ⟨W9.heap.size, 0, none⟩ = some (.slice As t.rest.length cs) ∧ w'.cell? ⟨W9.heap.size, 1, none⟩ = some (.int .i64 t.err)) (by kernel_rfl) hG.drew.cells (fun hHeld => ?_)
      refine take_at 0 53 (.slice Af xs.length cf) rfl rfl (by kernel_rfl) (by kernel_rfl) (by kernel_rfl) (fun _ _ _ h => h) (Or.inl ⟨by rfl, ?_⟩) hHeld ?_
      · intro w9 hSw
        (try dsimp only at hSw)
        go_simp
      (try simp only [Act.put, List.setIfInBounds_toArray, List.set_cons_zero, List.set_cons_succ])
      refine take_at 1 54 (.slice Ap xs.length cp) rfl rfl (by kernel_rfl) (by kernel_rfl) (by kernel_rfl) (fun _ _ _ h => h) (Or.inl ⟨by rfl, ?_⟩) hHeld ?_
      · intro w9 hSw
        (try dsimp only at hSw)
        go_simp
      (try simp only [Act.put, List.setIfInBounds_toArray, List.set_cons_zero, List.set_cons_succ])
      refine wpAnyH_ready (rs := [2]) (by kernel_rfl) (by simp) ?_
      refine AllReadyH.cons rfl (fun K hK => ?_) AllReadyH.nil
      go_simp
      refine (KS.out _ (by first | exact hG | exact hG.drew | exact hG.drewN _)).mono ?_
      rintro e W3 ⟨rfl, hG⟩
      (try go_wp2_with fail)
      refine hK.out _ _ hG.cells (fun hHeld => ?_)
      clear hK K
      refine take_at 3 56 (.bool true) rfl rfl (by kernel_rfl) (by kernel_rfl) (by kernel_rfl) (fun _ _ _ h => h) (Or.inl ⟨by rfl, ?_⟩) hHeld ?_
      · intro w9 hSw
        (try dsimp only at hSw)
        go_simp
      (try simp only [Act.put, List.setIfInBounds_toArray, List.set_cons_zero, List.set_cons_succ])
      refine take_at 4 57 (.pointer (some ⟨p1, 0, none⟩)) rfl rfl (by kernel_rfl) (by kernel_rfl) (by kernel_rfl) (fun _ _ _ h => h) (Or.inl ⟨by rfl, ?_⟩) hHeld ?_
      · intro w9 hSw
        (try dsimp only at hSw)
        go_simp
      (try simp only [Act.put, List.setIfInBounds_toArray, List.set_cons_zero, List.set_cons_succ])
      refine take_at 6 59 (.pointer (some ⟨W9.heap.size, 1, none⟩)) rfl rfl (by kernel_rfl) (by kernel_rfl) (by kernel_rfl) (fun _ _ _ h => h) (Or.inl ⟨by rfl, ?_⟩) hHeld ?_
      · intro w9 hSw
        (try dsimp only at hSw)
        go_simp
      (try simp only [Act.put, List.setIfInBounds_toArray, List.set_cons_zero, List.set_cons_succ])
      refine take_at 7 60 (.int .i64 t.err) rfl rfl (by kernel_rfl) (by kernel_rfl) (by kernel_rfl) (fun _ _ _ h => h) (Or.inl ⟨by rfl, ?_⟩) hHeld ?_
      · intro w9 hSw
        (try dsimp only at hSw)
        go_simp
      (try simp only [Act.put, List.setIfInBounds_toArray, List.set_cons_zero, List.set_cons_succ])
      refine wpAnyH_ready (rs := [5]) (by kernel_rfl) (by simp) ?_
      refine AllReadyH.cons rfl (fun K hK => ?_) AllReadyH.nil
      go_simp
      refine (KE.out _ (by first | exact hG | exact hG.drew | exact hG.drewN _)).mono ?_
      rintro e W3 ⟨rfl, hG⟩
      (try go_wp2_with fail)
      refine hK.out _ _ hG.cells (fun hHeld => ?_)
      clear hK K
      refine take_at 8 61 (.bool true) rfl rfl (by kernel_rfl) (by kernel_rfl) (by kernel_rfl) (fun _ _ _ h => h) (Or.inl ⟨by rfl, ?_⟩) hHeld ?_
      · intro w9 hSw
        (try dsimp only at hSw)
        go_simp
      (try simp only [Act.put, List.setIfInBounds_toArray, List.set_cons_zero, List.set_cons_succ])
      refine take_at 9 62 (.bool true) rfl rfl (by kernel_rfl) (by kernel_rfl) (by kernel_rfl) (fun _ _ _ h => h) (Or.inl ⟨by rfl, ?_⟩) hHeld ?_
      · intro w9 hSw
        (try dsimp only at hSw)
        go_simp
      (try simp only [Act.put, List.setIfInBounds_toArray, List.set_cons_zero, List.set_cons_succ])
      refine take_at 10 63 (.bool true) rfl rfl (by kernel_rfl) (by kernel_rfl) (by kernel_rfl) (fun _ _ _ h => h) (Or.inl ⟨by rfl, ?_⟩) hHeld ?_
      · intro w9 hSw
        (try dsimp only at hSw)
        go_simp
      (try simp only [Act.put, List.setIfInBounds_toArray, List.set_cons_zero, List.set_cons_succ])
      refine take_at 11 64 (.pointer (some ⟨W9.heap.size, 1, none⟩)) rfl rfl (by kernel_rfl) (by kernel_rfl) (by kernel_rfl) (fun _ _ _ h => h) (Or.inl ⟨by rfl, ?_⟩) hHeld ?_
      · intro w9 hSw
        (try dsimp only at hSw)
        go_simp
      (try simp only [Act.put, List.setIfInBounds_toArray, List.set_cons_zero, List.set_cons_succ])
      refine take_at 12 65 (.int .i64 t.err) rfl rfl (by kernel_rfl) (by kernel_rfl) (by kernel_rfl) (fun _ _ _ h => h) (Or.inl ⟨by rfl, ?_⟩) hHeld ?_
      · intro w9 hSw
        (try dsimp only at hSw)
        go_simp
      (try simp only [Act.put, List.setIfInBounds_toArray, List.set_cons_zero, List.set_cons_succ])
      refine take_at 13 66 (.bool false) rfl rfl (by kernel_rfl) (by kernel_rfl) (by kernel_rfl) (fun _ _ _ h => h) (Or.inl ⟨by rfl, ?_⟩) hHeld ?_
      · intro w9 hSw
        (try dsimp only at hSw)
        go_simp
      (try simp only [Act.put, List.setIfInBounds_toArray, List.set_cons_zero, List.set_cons_succ])
      refine take_at 14 67 (.bool false) rfl rfl (by kernel_rfl) (by kernel_rfl) (by kernel_rfl) (fun _ _ _ h => h) (Or.inl ⟨by rfl, ?_⟩) hHeld ?_
      · intro w9 hSw
        (try dsimp only at hSw)
        go_simp
      (try simp only [Act.put, List.setIfInBounds_toArray, List.set_cons_zero, List.set_cons_succ])
      refine take_at 15 68 (.pointer (some ⟨p1, 0, none⟩)) rfl rfl (by kernel_rfl) (by kernel_rfl) (by kernel_rfl) (fun _ _ _ h => h) (Or.inl ⟨by rfl, ?_⟩) hHeld ?_
      · intro w9 hSw
        (try dsimp only at hSw)
        go_simp
      (try simp only [Act.put, List.setIfInBounds_toArray, List.set_cons_zero, List.set_cons_succ])
      refine take_at 17 70 (.pointer (some ⟨W9.heap.size, 0, none⟩)) rfl rfl (by kernel_rfl) (by kernel_rfl) (by kernel_rfl) (fun _ _ _ h => h) (Or.inl ⟨by rfl, ?_⟩) hHeld ?_
      · intro w9 hSw
        (try dsimp only at hSw)
        go_simp
      (try simp only [Act.put, List.setIfInBounds_toArray, List.set_cons_zero, List.set_cons_succ])
      refine take_at 18 71 (.slice As t.rest.length cs) rfl rfl (by kernel_rfl) (by kernel_rfl) (by kernel_rfl) (fun _ _ _ h => h) (Or.inl ⟨by rfl, ?_⟩) hHeld ?_
      · intro w9 hSw
        (try dsimp only at hSw)
        go_simp
      (try simp only [Act.put, List.setIfInBounds_toArray, List.set_cons_zero, List.set_cons_succ])
      refine take_at 19 72 (.int .i64 (t.rest.length : Int)) rfl rfl (by kernel_rfl) (by kernel_rfl) (by kernel_rfl) (fun _ _ _ h => h) (Or.inl ⟨by rfl, ?_⟩) hHeld ?_
      · intro w9 hSw
        (try dsimp only at hSw)
        go_simp
      (try simp only [Act.put, List.setIfInBounds_toArray, List.set_cons_zero, List.set_cons_succ])
      refine wpAnyH_ready (rs := [16]) (by kernel_rfl) (by simp) ?_
      refine AllReadyH.cons rfl (fun K hK => ?_) AllReadyH.nil
      go_simp
      refine (KL.out _ (by first | exact hG | exact hG.drew | exact hG.drewN _)).mono ?_
      rintro e W3 ⟨rfl, hG⟩
      (try go_wp2_with fail)
      refine hK.out _ _ hG.cells (fun hHeld => ?_)
      clear hK K
      refine take_at 20 73 (.bool true) rfl rfl (by kernel_rfl) (by kernel_rfl) (by kernel_rfl) (fun _ _ _ h => h) (Or.inl ⟨by rfl, ?_⟩) hHeld ?_
      · intro w9 hSw
        (try dsimp only at hSw)
        go_simp
      (try simp only [Act.put, List.setIfInBounds_toArray, List.set_cons_zero, List.set_cons_succ])
      refine take_at 21 74 (.bool true) rfl rfl (by kernel_rfl) (by kernel_rfl) (by kernel_rfl) (fun _ _ _ h => h) (Or.inl ⟨by rfl, ?_⟩) hHeld ?_
      · intro w9 hSw
        (try dsimp only at hSw)
        go_simp
      (try simp only [Act.put, List.setIfInBounds_toArray, List.set_cons_zero, List.set_cons_succ])
      refine take_at 22 75 (.bool true) rfl rfl (by kernel_rfl) (by kernel_rfl) (by kernel_rfl) (fun _ _ _ h => h) (Or.inl ⟨by rfl, ?_⟩) hHeld ?_
      · intro w9 hSw
        (try dsimp only at hSw)
        go_simp
      (try simp only [Act.put, List.setIfInBounds_toArray, List.set_cons_zero, List.set_cons_succ])
      refine wpAnyH_ready (rs := [23]) (by kernel_rfl) (by simp) ?_
      refine AllReadyH.cons rfl (fun K hK => ?_) AllReadyH.nil
      go_simp
      refine hK.out _ _ hHeld (fun hHeld => ?_)
      clear hK K
      refine wpAnyH_done (by kernel_rfl) ?_ _
      clear hHeld
      go_wp2
      go_ret
      exact ⟨rfl, hG.blw⟩
    · have d1 : (t.err != 0) = true := by simp [h1]
      clear KL h1
      have hG := HZ.out
      clear HZ
      go_wp2_with fail
      refine wp_region_held_drew (S := fun w' => w'.cell? ⟨W9.heap.size, 0, none⟩ = some (.slice As t.rest.length cs) ∧ w'.cell? ⟨W9.heap.size, 1, none⟩ = some (.int .i64 t.err)) (by kernel_rfl) hG.drew.cells (fun hHeld => ?_)
      refine take_at 0 53 (.slice Af xs.length cf) rfl rfl (by kernel_rfl) (by kernel_rfl) (by kernel_rfl) (fun _ _ _ h => h) (Or.inl ⟨by rfl, ?_⟩) hHeld ?_
      · intro w9 hSw
        (try dsimp only at hSw)
        go_simp
      (try simp only [Act.put, List.setIfInBounds_toArray, List.set_cons_zero, List.set_cons_succ])
      refine take_at 1 54 (.slice Ap xs.length cp) rfl rfl (by kernel_rfl) (by kernel_rfl) (by kernel_rfl) (fun _ _ _ h => h) (Or.inl ⟨by rfl, ?_⟩) hHeld ?_
      · intro w9 hSw
        (try dsimp only at hSw)
        go_simp
      (try simp only [Act.put, List.setIfInBounds_toArray, List.set_cons_zero, List.set_cons_succ])
      refine wpAnyH_ready (rs := [2]) (by kernel_rfl) (by simp) ?_
      refine AllReadyH.cons rfl (fun K hK => ?_) AllReadyH.nil
      go_simp
      refine (KS.out _ (by first | exact hG | exact hG.drew | exact hG.drewN _)).mono ?_
      rintro e W3 ⟨rfl, hG⟩
      (try go_wp2_with fail)
      refine hK.out _ _ hG.cells (fun hHeld => ?_)
      clear hK K
      refine take_at 3 56 (.bool true) rfl rfl (by kernel_rfl) (by kernel_rfl) (by kernel_rfl) (fun _ _ _ h => h) (Or.inl ⟨by rfl, ?_⟩) hHeld ?_
      · intro w9 hSw
        (try dsimp only at hSw)
        go_simp
      (try simp only [Act.put, List.setIfInBounds_toArray, List.set_cons_zero, List.set_cons_succ])
      refine take_at 4 57 (.pointer (some ⟨p1, 0, none⟩)) rfl rfl (by kernel_rfl) (by kernel_rfl) (by kernel_rfl) (fun _ _ _ h => h) (Or.inl ⟨by rfl, ?_⟩) hHeld ?_
      · intro w9 hSw
        (try dsimp only at hSw)
        go_simp
      (try simp only [Act.put, List.setIfInBounds_toArray, List.set_cons_zero, List.set_cons_succ])
      refine take_at 6 59 (.pointer (some ⟨W9.heap.size, 1, none⟩)) rfl rfl (by kernel_rfl) (by kernel_rfl) (by kernel_rfl) (fun _ _ _ h => h) (Or.inl ⟨by rfl, ?_⟩) hHeld ?_
      · intro w9 hSw
        (try dsimp only at hSw)
        go_simp
      (try simp only [Act.put, List.setIfInBounds_toArray, List.set_cons_zero, List.set_cons_succ])
      refine take_at 7 60 (.int .i64 t.err) rfl rfl (by kernel_rfl) (by kernel_rfl) (by kernel_rfl) (fun _ _ _ h => h) (Or.inl ⟨by rfl, ?_⟩) hHeld ?_
      · intro w9 hSw
        (try dsimp only at hSw)
        go_simp
      (try simp only [Act.put, List.setIfInBounds_toArray, List.set_cons_zero, List.set_cons_succ])
      refine wpAnyH_ready (rs := [5]) (by kernel_rfl) (by simp) ?_
      refine AllReadyH.cons rfl (fun K hK => ?_) AllReadyH.nil
      go_simp
      refine (KE.out _ (by first | exact hG | exact hG.drew | exact hG.drewN _)).mono ?_
      rintro e W3 ⟨rfl, hG⟩
      (try go_wp2_with fail)
      refine hK.out _ _ hG.cells (fun hHeld => ?_)
      clear hK K
      refine take_at 8 61 (.bool true) rfl rfl (by kernel_rfl) (by kernel_rfl) (by kernel_rfl) (fun _ _ _ h => h) (Or.inl ⟨by rfl, ?_⟩) hHeld ?_
      · intro w9 hSw
        (try dsimp only at hSw)
        go_simp
      (try simp only [Act.put, List.setIfInBounds_toArray, List.set_cons_zero, List.set_cons_succ])
      refine take_at 9 62 (.bool true) rfl rfl (by kernel_rfl) (by kernel_rfl) (by kernel_rfl) (fun _ _ _ h => h) (Or.inl ⟨by rfl, ?_⟩) hHeld ?_
      · intro w9 hSw
        (try dsimp only at hSw)
        go_simp
      (try simp only [Act.put, List.setIfInBounds_toArray, List.set_cons_zero, List.set_cons_succ])
      refine take_at 10 63 (.bool true) rfl rfl (by kernel_rfl) (by kernel_rfl) (by kernel_rfl) (fun _ _ _ h => h) (Or.inl ⟨by rfl, ?_⟩) hHeld ?_
      · intro w9 hSw
        (try dsimp only at hSw)
        go_simp
      (try simp only [Act.put, List.setIfInBounds_toArray, List.set_cons_zero, List.set_cons_succ])
      refine take_at 11 64 (.pointer (some ⟨W9.heap.size, 1, none⟩)) rfl rfl (by kernel_rfl) (by kernel_rfl) (by kernel_rfl) (fun _ _ _ h => h) (Or.inl ⟨by rfl, ?_⟩) hHeld ?_
      · intro w9 hSw
        (try dsimp only at hSw)
        go_simp
      (try simp only [Act.put, List.setIfInBounds_toArray, List.set_cons_zero, List.set_cons_succ])
      refine take_at 12 65 (.int .i64 t.err) rfl rfl (by kernel_rfl) (by kernel_rfl) (by kernel_rfl) (fun _ _ _ h => h) (Or.inl ⟨by rfl, ?_⟩) hHeld ?_
      · intro w9 hSw
        (try dsimp only at hSw)
        go_simp
      (try simp only [Act.put, List.setIfInBounds_toArray, List.set_cons_zero, List.set_cons_succ])
      refine take_at 13 66 (.bool true) rfl rfl (by kernel_rfl) (by kernel_rfl) (by kernel_rfl) (fun _ _ _ h => h) (Or.inl ⟨by rfl, ?_⟩) hHeld ?_
      · intro w9 hSw
        (try dsimp only at hSw)
        go_simp
      (try simp only [Act.put, List.setIfInBounds_toArray, List.set_cons_zero, List.set_cons_succ])
      refine take_at 14 67 (.bool true) rfl rfl (by kernel_rfl) (by kernel_rfl) (by kernel_rfl) (fun _ _ _ h => h) (Or.inl ⟨by rfl, ?_⟩) hHeld ?_
      · intro w9 hSw
        (try dsimp only at hSw)
        go_simp
      (try simp only [Act.put, List.setIfInBounds_toArray, List.set_cons_zero, List.set_cons_succ])
      refine take_at 15 68 undef rfl rfl (by kernel_rfl) (by kernel_rfl) (by kernel_rfl) (fun _ _ _ h => h) (Or.inr ⟨by rfl, rfl⟩) hHeld ?_
      (try simp only [Act.put, List.setIfInBounds_toArray, List.set_cons_zero, List.set_cons_succ])
      refine take_at 16 69 undef rfl rfl (by kernel_rfl) (by kernel_rfl) (by kernel_rfl) (fun _ _ _ h => h) (Or.inr ⟨by rfl, rfl⟩) hHeld ?_
      (try simp only [Act.put, List.setIfInBounds_toArray, List.set_cons_zero, List.set_cons_succ])
      refine take_at 17 70 undef rfl rfl (by kernel_rfl) (by kernel_rfl) (by kernel_rfl) (fun _ _ _ h => h) (Or.inr ⟨by rfl, rfl⟩) hHeld ?_
      (try simp only [Act.put, List.setIfInBounds_toArray, List.set_cons_zero, List.set_cons_succ])
      refine take_at 18 71 undef rfl rfl (by kernel_rfl) (by kernel_rfl) (by kernel_rfl) (fun _ _ _ h => h) (Or.inr ⟨by rfl, rfl⟩) hHeld ?_
      (try simp only [Act.put, List.setIfInBounds_toArray, List.set_cons_zero, List.set_cons_succ])
      refine take_at 19 72 undef rfl rfl (by kernel_rfl) (by kernel_rfl) (by kernel_rfl) (fun _ _ _ h => h) (Or.inr ⟨by rfl, rfl⟩) hHeld ?_
      (try simp only [Act.put, List.setIfInBounds_toArray, List.set_cons_zero, List.set_cons_succ])
      refine take_at 20 73 undef rfl rfl (by kernel_rfl) (by kernel_rfl) (by kernel_rfl) (fun _ _ _ h => h) (Or.inr ⟨by rfl, rfl⟩) hHeld ?_
      (try simp only [Act.put, List.setIfInBounds_toArray, List.set_cons_zero, List.set_cons_succ])
      refine take_at 21 74 (.bool true) rfl rfl (by kernel_rfl) (by kernel_rfl) (by kernel_rfl) (fun _ _ _ h => h) (Or.inl ⟨by rfl, ?_⟩) hHeld ?_
      · intro w9 hSw
        (try dsimp only at hSw)
        go_simp
      (try simp only [Act.put, List.setIfInBounds_toArray, List.set_cons_zero, List.set_cons_succ])
      refine take_at 22 75 (.bool true) rfl rfl (by kernel_rfl) (by kernel_rfl) (by kernel_rfl) (fun _ _ _ h => h) (Or.inl ⟨by rfl, ?_⟩) hHeld ?_
      · intro w9 hSw
        (try dsimp only at hSw)
        go_simp
      (try simp only [Act.put, List.setIfInBounds_toArray, List.set_cons_zero, List.set_cons_succ])
      refine wpAnyH_ready (rs := [23]) (by kernel_rfl) (by simp) ?_
      refine AllReadyH.cons rfl (fun K hK => ?_) AllReadyH.nil
      go_simp
      refine hK.out _ _ hHeld (fun hHeld => ?_)
      clear hK K
      refine wpAnyH_done (by kernel_rfl) ?_ _
      clear hHeld
      go_wp2
      go_ret
      exact ⟨rfl, hG.blw⟩

end Go.Proofs.Ythehcdajedaefaa
