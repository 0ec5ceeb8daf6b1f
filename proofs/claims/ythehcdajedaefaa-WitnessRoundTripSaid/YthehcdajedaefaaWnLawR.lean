/-
  The walk of WitnessRoundTrip.
-/
import Derived.Test.YthehcdajedaefaaWnLawT
import Derived.Test.YthehcdajedaefaaVarAdd
namespace Go.Proofs.Ythehcdajedaefaa
open Go.RowKit
set_option linter.unusedVariables false
set_option linter.unusedSimpArgs false

set_option maxRecDepth 100000 in
set_option maxHeartbeats 4000000 in
theorem WitnessRoundTrip_walk (a0 : Option Addr) (len0 cap0 : Nat) (a1 a2 a3 : Int) (a4 : Option Addr) (len4 cap4 : Nat) (z4 : List Int) (w : World) (w0 : IsPrss w a0 len0 cap0) (w1 : (Lit.int .u16 a1).wf = true) (w2 : (Lit.int .u16 a2).wf = true) (w3 : (Lit.int .u16 a3).wf = true) (w4 : IsRow .u8 w a4 len4 cap4 z4) :
    Calls Try.prog 4 #[.slice a0 len0 cap0, .int .u16 a1, .int .u16 a2, .int .u16 a3, .slice a4 len4 cap4] w fun e w' => e = .returned (.bool true) ∧ Below w.heap.size w w' := by
  obtain ⟨xs, rfl, hs, hwf, hlc, hcm⟩ := w0
  obtain ⟨k0, k1⟩ := u16_of19 w1
  obtain ⟨k2, k3⟩ := u16_of19 w2
  obtain ⟨k4, k5⟩ := u16_of19 w3
  obtain ⟨l, rfl, hby, hs4, hlc4, hcm4⟩ := w4.bytes
  clear w1 w2 w3 w4
  have HK := Lib.hid hs
  have HL := Lib.hid hs4
  have HBYT := Lib.hid hby
  have HWF := Lib.hid hwf
  have hbm : xs.length ≤ maxLen := Nat.le_trans hlc hcm
  have hlm : l.length ≤ maxLen := Nat.le_trans hlc4 hcm4
  clear hs hs4 hby hwf hcm hcm4
  go_enter Try.func4, Try.ntmps4
  go_wp2_with fail
  refine (awake19_any _).mono ?_
  rintro e W1 ⟨rfl, hb⟩
  have HB1 := Lib.hid hb
  clear hb
  have C1 := Lib.hid (redfew_any w.heap.size a0 xs cap0 W1 (HK.out.below HB1.out) hbm)
  unfold maxLen at hbm hlm
  go_wp2_with fail
  refine C1.out.mono ?_
  rintro e W2 ⟨⟨bb, rfl, hfew⟩, hb⟩
  have HB2 := Lib.hid (HB1.out.trans (hb.below.mono HB1.out.size))
  have HFW := Lib.hid hfew
  clear hb HB1 C1 hfew
  cases bb
  · go_wp2_with fail
    refine (awake19_any _).mono ?_
    rintro e W3 ⟨rfl, hb⟩
    have HB3 := Lib.hid (HB2.out.trans (hb.mono HB2.out.size))
    go_wp2
    go_ret
    exact ⟨rfl, HB3.out⟩
  · obtain ⟨f1, f2⟩ := HFW.out rfl
    have HF2 := Lib.hid f2
    clear HFW f2
    by_cases hz : 1000 < l.length
    · have hlt : (1000 : Int) < l.length := by omega
      go_wp2_with fail
      refine (awake19_any _).mono ?_
      rintro e W3 ⟨rfl, hb⟩
      have HB3 := Lib.hid (HB2.out.trans (hb.mono HB2.out.size))
      go_wp2
      go_ret
      exact ⟨rfl, HB3.out⟩
    · have hlt : ¬ (1000 : Int) < l.length := by omega
      have C2 := Lib.hid (rvalid_any w.heap.size a0 xs cap0 xs.length a1 a2 a3 W2 (HK.out.below HB2.out) (by omega) (fun x hx => by have := HF2.out x hx; omega) HWF.out)
      by_cases hv : validE xs xs.length a1 a2 a3 = 0
      · rw [hv] at C2
        have htot : totP xs ≤ 16000 := by have := totP_le (m := 400) HF2.out; have : xs.length * 400 ≤ 40 * 400 := Nat.mul_le_mul_right 400 f1; omega
        have hpp := validE_pp (by omega) (by omega) (by omega) hv
        have HPUT := Lib.hid (getE19_put (vr := a1) (r := a2) (n := a3) (by omega) (by omega) (by omega) hv (by omega))
        have l1 := (encW_len19 xs).2
        have HBY := Lib.hid (encW_byt19 hpp fun x hx => by have := HF2.out x hx; omega)
        have C3 := Lib.hid fun W (hb : SeesPP W w.heap.size a0 xs) (hsz : w.heap.size ≤ W.heap.size) => rputw_any w.heap.size a0 xs cap0 W hb hsz (by omega) (fun x hx => by have := HF2.out x hx; omega) hpp
        have C4 := Lib.hid fun (W : World) (q hi : Nat) (v : Value) (h : Wri W q hi v []) (hhi : hi ≤ W.heap.size) (hb : SeesPP W q a0 xs) => pput19_any h (by decide) hhi (c := cap0) hb hlc (by omega) (fun x hx => by have := HF2.out x hx; omega) hpp
        clear hpp hv
        obtain ⟨l2, hl⟩ : ∃ z, z = encW19 xs := ⟨_, rfl⟩
        rw [← hl] at C3 C4 HBY HPUT l1
        clear hl
        go_wp2_with fail
        refine C2.out.mono ?_
        rintro e W3 ⟨rfl, hb⟩
        have HB3 := Lib.hid (HB2.out.trans (hb.below.mono HB2.out.size))
        clear hb HB2 C2
        go_upto_region 4 with fail
        have HW0 := Lib.hid (Wri.new W3)
        have HB4 := Lib.hid (HB3.out.alloc HB3.out.size (.cells #[.slice none 0 0] 42))
        have HZ4 : Hid (W3.heap.size + 1 ≤ (W3.alloc (.cells #[.slice none 0 0] 42)).heap.size) := by show _ ≤ _; simp
        generalize (W3.alloc (.cells #[.slice none 0 0] 42)) = W4 at *
        have C5 := Lib.hid (C4.out W4 _ _ _ HW0.out HZ4.out ((HK.out.below HB4.out).more HB3.out.size))
        rw [List.nil_append] at C5
        clear C4
        go_wp2_with fail
        refine C5.out.mono ?_
        rintro e W5 ⟨rfl, ⟨v5, hw5⟩, hm5⟩
        have HB5 := Lib.hid (HB4.out.trans (hm5.below HB4.out.size fun k hk => by unfold From at hk; have := HB3.out.size; omega))
        have HW5 := Lib.hid hw5
        have C6 := Lib.hid (C3.out W5 (HK.out.below HB5.out) HB5.out.size)
        clear hw5 hm5 HW0 HB4 HZ4 C5 C3
        go_wp2_with fail
        refine C6.out.mono ?_
        rintro e W6 ⟨A6, c6, rfl, ho, hb⟩
        have HB6 := Lib.hid (HB5.out.trans (hb.mono HB5.out.size))
        have HW6 := Lib.hid (HW5.out.mods (S := No) (Mods.of_below hb) fun _ h => h.elim)
        have HS6 := Lib.hid (Sees.of_own ho)
        clear ho hb HB5 HW5 C6
        have C7 := Lib.hid (add_any A6 a4 l2 l c6 cap4 W6 HS6.out ((HL.out.below HB6.out).more HB6.out.size) (by omega))
        go_wp2_with fail
        refine C7.out.mono ?_
        rintro e W7 ⟨A7, c7, rfl, ho, hb⟩
        have HB7 := Lib.hid (HB6.out.trans (hb.mono HB6.out.size))
        have HW7 := Lib.hid (HW6.out.mods (S := No) (Mods.of_below hb) fun _ h => h.elim)
        have HS7 := Lib.hid (HS6.out.below hb)
        have HZ7 := Lib.hid hb.size
        have HBS := Lib.hid HB7.out.size
        have C8 := Lib.hid (new_any A7 (l2 ++ l) W7.heap.size c7 W7 (Sees.of_own ho) (Nat.le_refl _) (byt_app18 HBY.out HBYT.out) (by rw [List.length_append]; omega))
        rw [List.length_append] at C8
        clear ho hb HB6 HW6 HS6 C7
        go_wp2_with fail
        refine C8.out.mono ?_
        rintro e W8 ⟨p, A8, c8, rfl, hp, hc, hb⟩
        have HB8 := Lib.hid (HB7.out.trans (hb.mono HB7.out.size))
        have HW8 := Lib.hid (HW7.out.mods (S := No) (Mods.of_below hb) fun _ h => h.elim)
        have HS8 := Lib.hid (HS7.out.below (hb.mono HZ7.out))
        have HC8 := Lib.hid hc
        have HP8 := Lib.hid hp
        have HZ8 := Lib.hid hb.size
        clear hp hc hb HB7 HW7 HS7 C8
        go_wp2_with fail
        refine (out_any HW8.out (by omega)).mono ?_
        rintro e W9 ⟨A9, c9, rfl, ho, hb⟩
        have HB9 := Lib.hid (HB8.out.trans (hb.mono HB8.out.size))
        have HS9 := Lib.hid (HS8.out.below (hb.mono (Nat.le_trans HZ7.out HZ8.out)))
        have HC9 := Lib.hid (HC8.out.mods (S := No) (Mods.of_below hb) fun _ h => h.elim)
        have HZ9 := Lib.hid hb.size
        have C10 := same_any W9.heap.size A9 A6 l2 l2 c9 c6 W9 (Sees.of_own ho) (HS9.out.more (Nat.le_trans HZ7.out (Nat.le_trans HZ8.out HZ9.out))) (by unfold maxLen; omega) (by unfold maxLen; omega)
        rw [sameB_self] at C10
        have C10 := Lib.hid C10
        clear ho hb HB8 HW8 HS8 HC8
        go_wp2_with fail
        refine C10.out.mono ?_
        rintro e W ⟨rfl, n9, h9⟩
        have HB10 : Hid (Below w.heap.size w W) := Lib.hid (HB9.out.trans (let b := Below.refl w.heap.size W9; h9 ▸ ⟨b.os, b.tape, b.output, b.size, b.block⟩))
        have HC10 : Hid (Cur W W7.heap.size p (l2 ++ l) 0 0 A8 c8) := Lib.hid (h9 ▸ HC9.out.drewN n9)
        clear h9 HB9 HS9 HC9 C10
        have C11 := Lib.hid (pget19_any HC10.out (m := xs.length) (vr := a1) (r := a2) (n := a3) (by rw [List.length_append]; omega) ⟨by omega, by omega⟩ ⟨by omega, by omega⟩ ⟨by omega, by omega⟩ ⟨by omega, by omega⟩ (xs := xs) (t := ⟨l, 0⟩) (by rw [List.drop_zero]; exact HPUT.out l))
        have HW7 := Lib.hid (Nat.le_trans HBS.out HP8.out)
        go_wp2_with fail
        refine C11.out.mono ?_
        rintro e W11 ⟨v, vs, rfl, hn, hm, i11, hc, hd⟩
        obtain ⟨Ag, cg, rfl, _, _, hpp⟩ := nest_pp hn
        have HB11 := Lib.hid (HB10.out.trans (hm.below HB10.out.size fun k hk => by unfold Is at hk; have := HW7.out; omega))
        have HC11 := Lib.hid hc
        have hi : i11 = l2.length := by
          have h9 := congrArg List.length (hd rfl)
          have h8 := hc.le
          rw [List.length_drop] at h9
          rw [List.length_append] at h8 h9
          have h7 : (⟨l, 0⟩ : Ip).rest.length = l.length := rfl
          omega
        subst hi
        have C12 := Lib.hid (rsame15_any W11.heap.size Ag a0 xs cg cap0 W11 hpp ((HK.out.below HB11.out).more HB11.out.size) (Nat.le_refl _) (by omega))
        clear hn hm hc hd hpp C11 HB10 HC10
        go_wp2_with fail
        refine C12.out.mono ?_
        rintro e W12 ⟨rfl, hg⟩
        have HB12 := Lib.hid (HB11.out.trans (hg.below.mono HB11.out.size))
        have HC12 := Lib.hid (HC11.out.mods (S := No) (Mods.of_below hg.below) fun _ h => h.elim)
        clear hg HB11 HC11 C12
        go_wp2_with fail
        refine (err_any HC12.out).mono ?_
        rintro e W ⟨rfl, rfl⟩
        have HLF := left_any HC12.out
        rw [show leftS (l2 ++ l).length l2.length (Ip.mk l 0).err = (l.length : Int) by rw [show (Ip.mk l 0).err = 0 from rfl, leftS_ok, List.length_append]; omega] at HLF
        have HLF := Lib.hid HLF
        go_wp2_with fail
        refine HLF.out.mono ?_
        rintro e W13 ⟨rfl, n13, h13⟩
        go_wp2
        go_ret
        exact ⟨rfl, HB12.out.trans (let b := Below.refl w.heap.size W12; h13 ▸ ⟨b.os, b.tape, b.output, b.size, b.block⟩)⟩
      · have d1 : (validE xs xs.length a1 a2 a3 != 0) = true := by simp [hv]
        clear hv
        go_wp2_with fail
        refine C2.out.mono ?_
        rintro e W3 ⟨rfl, hb⟩
        have HB3 := Lib.hid (HB2.out.trans (hb.below.mono HB2.out.size))
        clear hb HB2 C2
        go_wp2_with fail
        refine (awake19_any _).mono ?_
        rintro e W4 ⟨rfl, hb⟩
        have HB4 := Lib.hid (HB3.out.trans (hb.mono HB3.out.size))
        go_wp2
        go_ret
        exact ⟨rfl, HB4.out⟩

end Go.Proofs.Ythehcdajedaefaa
