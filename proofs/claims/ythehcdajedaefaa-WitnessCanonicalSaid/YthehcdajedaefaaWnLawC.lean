/-
  The walk of WitnessCanonical.
-/
import Derived.Test.YthehcdajedaefaaWnLawT
namespace Go.Proofs.Ythehcdajedaefaa
open Go.RowKit
set_option linter.unusedVariables false
set_option linter.unusedSimpArgs false

set_option maxRecDepth 100000 in
set_option maxHeartbeats 4000000 in
theorem WitnessCanonical_walk (a0 : Option Addr) (len0 cap0 : Nat) (z0 : List Int) (a1 a2 a3 a4 : Int) (w : World) (w0 : IsRow .u8 w a0 len0 cap0 z0) (w1 : (Lit.int .u8 a1).wf = true) (w2 : (Lit.int .u16 a2).wf = true) (w3 : (Lit.int .u16 a3).wf = true) (w4 : (Lit.int .u16 a4).wf = true) :
    Calls Try.prog 5 #[.slice a0 len0 cap0, .int .u8 a1, .int .u16 a2, .int .u16 a3, .int .u16 a4] w fun e w' => e = .returned (.bool true) ∧ Below w.heap.size w w' := by
  obtain ⟨l, rfl, hby, hs, hlc, hcm⟩ := w0.bytes
  obtain ⟨k0, k1⟩ := u8_of19 w1
  obtain ⟨k2, k3⟩ := u16_of19 w2
  obtain ⟨k4, k5⟩ := u16_of19 w3
  obtain ⟨k6, k7⟩ := u16_of19 w4
  clear w0 w1 w2 w3 w4
  by_cases hlong : 2000 < l.length
  · go_enter Try.func5, Try.ntmps5
    go_wp2_with fail
    refine (awake19_any _).mono ?_
    rintro e W ⟨rfl, hb⟩
    go_wp2_with fail
    refine (awake19_any _).mono ?_
    rintro e W' ⟨rfl, hb'⟩
    go_wp2
    go_ret
    exact ⟨rfl, hb.trans (hb'.mono hb.size)⟩
  · have hlt : ¬ (2000 : Int) < l.length := by omega
    go_enter Try.func5, Try.ntmps5
    go_wp2_with fail
    refine (awake19_any _).mono ?_
    rintro e W1 ⟨rfl, hb⟩
    have HB1 := Lib.hid hb
    have hs1 := Lib.hid (hs.below hb)
    clear hb hs
    go_wp2_with fail
    refine (new_any _ l w.heap.size _ W1 hs1.out HB1.out.size hby (by omega)).mono ?_
    rintro e W2 ⟨p1, A1, c1, rfl, hp1, hc1, hb1⟩
    have HB2 := Lib.hid (HB1.out.trans (hb1.mono HB1.out.size))
    have hs2 := Lib.hid (hs1.out.below (hb1.mono HB1.out.size))
    have HC1 := Lib.hid hc1
    have HP1 := Lib.hid (show w.heap.size ≤ p1 ∧ p1 < W2.heap.size from ⟨by have := HB1.out.size; omega, hc1.row.lt⟩)
    clear hp1 hc1 hb1 HB1 hs1
    obtain ⟨⟨xs, t⟩, hF⟩ : ∃ y, getE19 a2 a3 a4 a1.toNat ⟨l.drop 0, 0⟩ = y := ⟨_, rfl⟩
    have C1 := Lib.hid (pget19_any HC1.out (m := a1) (by omega) ⟨k0, by omega⟩ ⟨k2, by omega⟩ ⟨k4, by omega⟩ ⟨k6, by omega⟩ hF)
    have EF := Lib.hid hF
    clear hF
    go_wp2_with fail
    refine C1.out.mono ?_
    rintro e W4 ⟨v, vs, rfl, hn, hm, i1, hc, hd⟩
    obtain ⟨Af, cf, rfl, hf1, hf2, hpp⟩ := nest_pp hn
    have hbm := hm.below HB2.out.size (fun k hk => by unfold Is at hk; have := HP1.out; omega)
    have HB4 := Lib.hid (HB2.out.trans hbm)
    have hs4 := Lib.hid (hs2.out.below hbm)
    have F1 := Lib.hid hc
    have HS1 := Lib.hid hpp
    clear hbm hn hm hc hpp C1 HC1 HB2 hs2
    by_cases he : t.err = 0
    · have d1 : (t.err != 0) = false := by simp [he]
      have hok := getE19_ok (vr := a2) (r := a3) (n := a4) (m := a1.toNat) (s := ⟨l.drop 0, 0⟩) (by rw [List.drop_zero]; exact hby) (by rw [EF.out]; exact he)
      rw [EF.out] at hok
      obtain ⟨_, v1, v2⟩ := hok
      have v3 : l = encW19 xs ++ t.rest := v2
      have v4 : validE xs a1 a2 a3 a4 = 0 := by
        have h9 : validE xs (a1.toNat : Int) a2 a3 a4 = 0 := v1
        rw [Int.toNat_of_nonneg k0] at h9
        exact h9
      have hpp := validE_pp (by omega) (by omega) (by omega) v4
      have hlen := (encW_len19 xs).1
      have hel : (encW19 xs).length ≤ l.length := by have := congrArg List.length v3; rw [List.length_append] at this; omega
      have hx1 : xs.length ≤ 1000 := by have := (validE_vls v4).1; omega
      have hx2 : ∀ x ∈ xs, x.length ≤ 1000 := fun x hx => by have := totP_mem19 xs x hx; omega
      have C2 := Lib.hid (rputw_any W4.heap.size Af xs cf W4 HS1.out (Nat.le_refl _) (by omega) (fun x hx => by have := hx2 x hx; omega) hpp)
      have C3 := Lib.hid fun W (hb : Below W4.heap.size W4 W) => rvalid_any W4.heap.size Af xs cf a1 a2 a3 a4 W (HS1.out.below hb) hx1 hx2 (fun x hx => pp_wf19 x true (0, 0) (hpp x hx))
      rw [v4] at C3
      have hi1 : (encW19 xs).length = i1 := by
        have h9 := congrArg List.length (hd he)
        have h8 := congrArg List.length v3
        have h7 := F1.out.le
        rw [List.length_drop] at h9
        rw [List.length_append] at h8
        omega
      have ht : l.take (encW19 xs).length = encW19 xs := by
        have : (encW19 xs ++ t.rest).take (encW19 xs).length = encW19 xs := List.take_left
        rw [← v3] at this
        exact this
      obtain ⟨l2, hl2⟩ : ∃ z, z = encW19 xs := ⟨_, rfl⟩
      rw [← hl2] at C2 hi1 ht hel
      subst hi1
      have HT := Lib.hid ht
      clear ht v1 v2 v3 v4 hpp hlen hx1 hx2 hl2 he hd
      go_wp2_with fail
      refine (err_any F1.out).mono ?_
      rintro e W ⟨rfl, rfl⟩
      go_wp2_with fail
      refine C2.out.mono ?_
      rintro e W5 ⟨Ae, ce, rfl, ho, hb⟩
      have HB5 := Lib.hid hb
      have HSE := Lib.hid (Sees.of_own ho)
      have C4 := Lib.hid (C3.out W5 HB5.out)
      clear ho hb C2 C3
      go_wp2_with fail
      refine C4.out.mono ?_
      rintro e W6 ⟨rfl, hg⟩
      have hb6 := HB5.out.trans (hg.below.mono HB5.out.size)
      have HB6 := Lib.hid (HB4.out.trans (hb6.mono HB4.out.size))
      have hs6 := Lib.hid (hs4.out.below (hb6.mono HB4.out.size))
      have F6 := Lib.hid (F1.out.mods (S := No) (Mods.of_below hb6) fun _ h => h.elim)
      have HSE6 := Lib.hid (HSE.out.below hg.below)
      have HSZ := Lib.hid hg.below.size
      clear hg hb6 HB4 HB5 hs4 F1 HSE C4
      go_wp2_with fail
      refine (at_any F6.out).mono ?_
      rintro e W ⟨rfl, rfl⟩
      have hlk : (l.take l2.length).length = l2.length := by rw [List.length_take]; omega
      have C5 := same_any W6.heap.size a0 Ae (l.take l2.length) l2 cap0 ce W6 (by have := (hs6.out.more HB6.out.size).take (k := l2.length); unfold bts at *; rwa [List.map_take]) (HSE6.out.more HSZ.out) (by rw [hlk]; omega) (by omega)
      rw [hlk, HT.out, sameB_self] at C5
      have C6 := Lib.hid C5
      clear C5 hlk
      go_wp2_with fail
      refine C6.out.mono ?_
      rintro e W7 ⟨rfl, n7, rfl⟩
      go_wp2
      go_ret
      exact ⟨rfl, HB6.out.trans (let b := Below.refl w.heap.size W6; ⟨b.os, b.tape, b.output, b.size, b.block⟩)⟩
    · have d1 : (t.err != 0) = true := by simp [he]
      have hx : xs = [] := by
        have := getE19_bad (vr := a2) (r := a3) (n := a4) (m := a1.toNat) (s := ⟨l.drop 0, 0⟩) (by rw [EF.out]; exact he)
        rw [EF.out] at this
        exact this
      subst hx
      clear he
      go_wp2_with fail
      refine (err_any F1.out).mono ?_
      rintro e W ⟨rfl, rfl⟩
      go_wp2
      go_ret
      exact ⟨rfl, HB4.out⟩

end Go.Proofs.Ythehcdajedaefaa
