/-
  The walk of WitnessTruncated.
-/
import Derived.Test.YthehcdajedaefaaWnAwake
import Derived.Test.YthehcdajedaefaaWnPut
import Derived.Test.YthehcdajedaefaaEdRef
namespace Go.Proofs.Ythehcdajedaefaa
open Go.RowKit
set_option linter.unusedVariables false
set_option linter.unusedSimpArgs false

theorem u16_of19 {x : Int} (h : (Lit.int .u16 x).wf = true) : 0 ≤ x ∧ x ≤ 65535 := by
  simp [Lit.wf, IntKind.min, IntKind.max, IntKind.signed, IntKind.bits] at h
  omega

theorem u8_of19 {x : Int} (h : (Lit.int .u8 x).wf = true) : 0 ≤ x ∧ x ≤ 255 := by
  simp [Lit.wf, IntKind.min, IntKind.max, IntKind.signed, IntKind.bits] at h
  omega

theorem validE_vls {xs : List (List Pr)} {k vr r n : Int} (h : validE xs k vr r n = 0) : (xs.length : Int) = k ∧ vlsE vr r n xs = 0 := by
  unfold validE at h
  split at h
  · cases h
  · rename_i h9
    exact ⟨by omega, h⟩

theorem validE_pp {xs : List (List Pr)} {k vr r n : Int} (hv : vr ≤ 1000000000) (hr : r ≤ 1000000000) (hn : n ≤ 1000000000) (h : validE xs k vr r n = 0) : ∀ l ∈ xs, PP19 true (0, 0) l := vlsE_pp hv hr hn xs (validE_vls h).2

theorem i64_of19 {x : Int} (h : InI x) : I64 x := by
  unfold InI at h
  unfold I64
  simp [Lit.wf, IntKind.min, IntKind.max, IntKind.signed, IntKind.bits]
  omega

theorem pp_wf19 : ∀ (l : List Pr) (f : Bool) (q : Pr), PP19 f q l → ∀ p ∈ l, PrWf p
  | [], _, _, _, _, hp => by cases hp
  | x :: l, f, q, h, p, hp => by
    obtain ⟨_, _, h3, h4⟩ := h
    rcases List.mem_cons.1 hp with rfl | h9
    · exact ⟨i64_of19 h3.1, i64_of19 h3.2⟩
    · exact pp_wf19 l false x h4 p h9

theorem totP_mem19 : ∀ (w : List (List Pr)) (x : List Pr), x ∈ w → x.length ≤ totP w
  | y :: w, x, h => by
    show x.length ≤ y.length + totP w
    rcases List.mem_cons.1 h with rfl | h9
    · omega
    · have := totP_mem19 w x h9
      omega

set_option maxRecDepth 100000 in
set_option maxHeartbeats 4000000 in
theorem WitnessTruncated_walk (a0 : Option Addr) (len0 cap0 : Nat) (a1 a2 a3 a4 : Int) (w : World) (w0 : IsPrss w a0 len0 cap0) (w1 : (Lit.int .u16 a1).wf = true) (w2 : (Lit.int .u16 a2).wf = true) (w3 : (Lit.int .u16 a3).wf = true) (w4 : (Lit.int .u16 a4).wf = true) :
    Calls Try.prog 6 #[.slice a0 len0 cap0, .int .u16 a1, .int .u16 a2, .int .u16 a3, .int .u16 a4] w fun e w' => e = .returned (.bool true) ∧ Below w.heap.size w w' := by
  obtain ⟨xs, rfl, hs, hwf, hlc, hcm⟩ := w0
  obtain ⟨k0, k1⟩ := u16_of19 w1
  obtain ⟨k2, k3⟩ := u16_of19 w2
  obtain ⟨k4, k5⟩ := u16_of19 w3
  obtain ⟨k6, k7⟩ := u16_of19 w4
  clear w1 w2 w3 w4
  have HK := Lib.hid hs
  have HWF := Lib.hid hwf
  have hbm : xs.length ≤ maxLen := Nat.le_trans hlc hcm
  clear hs hwf hcm
  go_enter Try.func6, Try.ntmps6
  go_wp2_with fail
  refine (awake19_any _).mono ?_
  rintro e W1 ⟨rfl, hb⟩
  have HB1 := Lib.hid hb
  clear hb
  have C1 := Lib.hid (redfew_any w.heap.size a0 xs cap0 W1 (HK.out.below HB1.out) hbm)
  unfold maxLen at hbm
  go_wp2_with fail
  refine C1.out.mono ?_
  rintro e W2 ⟨⟨bb, rfl, hfew⟩, hb⟩
  have HB2 := Lib.hid (HB1.out.trans (hb.below.mono HB1.out.size))
  have HFW := Lib.hid hfew
  clear hb HB1 C1 hfew
  cases bb
  · go_wp2_with fail
    refine (awake19_any _).mono ?_
    rintro e W3 ⟨rfl, hb⟩
    have HB3 := Lib.hid (HB2.out.trans (hb.mono HB2.out.size))
    go_wp2
    go_ret
    exact ⟨rfl, HB3.out⟩
  · obtain ⟨f1, f2⟩ := HFW.out rfl
    have HF2 := Lib.hid f2
    clear HFW f2
    by_cases hz : xs.length = 0
    · have d0 : ((xs.length : Int) == 0) = true := by simp [hz]
      clear hz
      go_wp2_with fail
      refine (awake19_any _).mono ?_
      rintro e W3 ⟨rfl, hb⟩
      have HB3 := Lib.hid (HB2.out.trans (hb.mono HB2.out.size))
      go_wp2
      go_ret
      exact ⟨rfl, HB3.out⟩
    · have d0 : ((xs.length : Int) == 0) = false := by
        rw [beq_eq_false_iff_ne]
        omega
      have C2 := Lib.hid (rvalid_any w.heap.size a0 xs cap0 xs.length a1 a2 a3 W2 (HK.out.below HB2.out) (by omega) (fun x hx => by have := HF2.out x hx; omega) HWF.out)
      by_cases hv : validE xs xs.length a1 a2 a3 = 0
      · rw [hv] at C2
        have htot : totP xs ≤ 16000 := by have := totP_le (m := 400) HF2.out; have : xs.length * 400 ≤ 40 * 400 := Nat.mul_le_mul_right 400 f1; omega
        have hpp := validE_pp (by omega) (by omega) (by omega) hv
        have HCUT := Lib.hid fun j (hj : j < (encW19 xs).length) => getE19_cut (vr := a1) (r := a2) (n := a3) (by omega) (by omega) (by omega) hv (by omega) hj
        have l1 := (encW_len19 xs).2
        have l0 : 0 < (encW19 xs).length := by have := (encW_len19 xs).1; omega
        have HBY := Lib.hid (encW_byt19 hpp fun x hx => by have := HF2.out x hx; omega)
        have C3 := Lib.hid fun W (hb : SeesPP W w.heap.size a0 xs) (hsz : w.heap.size ≤ W.heap.size) => rputw_any w.heap.size a0 xs cap0 W hb hsz (by omega) (fun x hx => by have := HF2.out x hx; omega) hpp
        clear hpp hv
        obtain ⟨l, hl⟩ : ∃ z, z = encW19 xs := ⟨_, rfl⟩
        rw [← hl] at C3 HBY HCUT l0 l1
        clear hl
        go_wp2_with fail
        refine C2.out.mono ?_
        rintro e W3 ⟨rfl, hb⟩
        have HB3 := Lib.hid (HB2.out.trans (hb.below.mono HB2.out.size))
        have C4 := Lib.hid (C3.out W3 (HK.out.below HB3.out) HB3.out.size)
        clear hb HB2 C2 C3
        go_wp2_with fail
        refine C4.out.mono ?_
        rintro e W4 ⟨A4, c4, rfl, ho, hb⟩
        have HB4 := Lib.hid (HB3.out.trans (hb.mono HB3.out.size))
        have HS := Lib.hid (Sees.of_own ho)
        have hc4 : l.length ≤ c4 := by
          obtain ⟨A, c, he, hc, _⟩ := own_slice ho (bts_length _)
          injection he with e1 e2 e3
          omega
        clear ho hb HB3 C4
        have m0 : 0 ≤ a4 % (l.length : Int) := Int.emod_nonneg _ (by omega)
        have m1 : a4 % (l.length : Int) < (l.length : Int) := Int.emod_lt_of_pos _ (by omega)
        have m2 : a4 % (l.length : Int) ≤ (c4 : Int) := by omega
        go_wp2_with fail
        generalize (a4 % (l.length : Int)) = z at *
        obtain ⟨k, rfl⟩ : ∃ k : Nat, z = k := ⟨z.toNat, by omega⟩
        have hk : k < l.length := by omega
        have C5 := new_any A4 (l.take k) W4.heap.size c4 W4 (by have := HS.out.take (k := k); unfold bts at *; rwa [List.map_take]) (Nat.le_refl _) (fun x hx => HBY.out x (List.mem_of_mem_take hx)) (by rw [List.length_take]; omega)
        have hlk : (l.take k).length = k := by rw [List.length_take]; omega
        rw [hlk] at C5
        have HC := Lib.hid (HCUT.out k hk)
        clear HCUT HBY HS
        refine C5.mono ?_
        rintro e W5 ⟨p, A5, c5, rfl, hp, hc, hb⟩
        have HB5 := Lib.hid (HB4.out.trans (hb.mono HB4.out.size))
        have HP := Lib.hid hp
        have C6 : Hid (Calls Try.prog 9 #[.pointer (some ⟨p, 0, none⟩), .int .i64 xs.length, .int .i64 a1, .int .i64 a2, .int .i64 a3] W5 fun e W' => ∃ A6 c6 i6 A' c', e = .returned (.slice A6 0 c6) ∧ Mods (Is p) W5 W' ∧ Cur W' W4.heap.size p (l.take k) i6 1 A' c') :=
          (pget19_any hc (m := xs.length) (vr := a1) (r := a2) (n := a3) (by rw [List.length_take]; omega) ⟨by omega, by omega⟩ ⟨by omega, by omega⟩ ⟨by omega, by omega⟩ ⟨by omega, by omega⟩ (xs := []) (t := (getE19 a1 a2 a3 xs.length ⟨l.take k, 0⟩).2) (by rw [List.drop_zero, ← HC.out.2]; rfl)).mono (by
            rintro e W' ⟨v, vs, rfl, hn, hm, i', hc, _⟩
            obtain ⟨A6, c6, rfl, _, _, _⟩ := nest_pp hn
            rw [HC.out.1] at hc
            exact ⟨A6, c6, i', _, _, rfl, hm, hc⟩)
        have HW4 := Lib.hid HB4.out.size
        clear hb hc hp HB4 HC C5
        go_wp2_with fail
        refine C6.out.mono ?_
        rintro e W6 ⟨A6, c6, i6, A7, c7, rfl, hm, hc6⟩
        have HB6 := Lib.hid (HB5.out.trans (hm.below HB5.out.size (fun k hk => by unfold Is at hk; have := HP.out; have := HW4.out; omega)))
        have HC6 := Lib.hid hc6
        clear hm hc6 HB5 C6
        go_wp2_with fail
        refine (err_any HC6.out).mono ?_
        rintro e W7 ⟨rfl, rfl⟩
        go_wp2
        go_ret
        exact ⟨rfl, HB6.out⟩
      · have d1 : (validE xs xs.length a1 a2 a3 != 0) = true := by simp [hv]
        clear hv
        go_wp2_with fail
        refine C2.out.mono ?_
        rintro e W3 ⟨rfl, hb⟩
        have HB3 := Lib.hid (HB2.out.trans (hb.below.mono HB2.out.size))
        clear hb HB2 C2
        go_wp2_with fail
        refine (awake19_any _).mono ?_
        rintro e W4 ⟨rfl, hb⟩
        have HB4 := Lib.hid (HB3.out.trans (hb.mono HB3.out.size))
        go_wp2
        go_ret
        exact ⟨rfl, HB4.out⟩

end Go.Proofs.Ythehcdajedaefaa
