/-
  The walk of the statement on soundness.
-/
import Derived.Test.YtapdheabblgbaaaGreatCkAwk
import Derived.Test.YtapdheabblgbaaaGreatCkSml
import Derived.Test.YtapdheabblgbaaaGreatPk1
namespace Go.Proofs.YtapdheabblgbaaaGreat
open Go.RowKit Go.Deep
set_option linter.unusedVariables false
set_option linter.unusedSimpArgs false

theorem rp_err (a b c d e f g : Value) (w : World) : (Instr.field 37 (.agg #[a, b, c, d, e, f, g]) 0).run Tryz.prog w = .ok a w := by kernel_rfl

set_option maxRecDepth 100000 in
set_option maxHeartbeats 16000000 in
theorem CheckerSound_walk (a0 : Array Value) (a1 : Option Addr) (len1 cap1 : Nat) (z1 : List Int) (a2 : Int) (w : World) (w0 : IsCert w a0) (w1 : IsRow .i64 w a1 len1 cap1 z1) (w2 : (Lit.int .u8 a2).wf = true) :
    Calls Tryz.prog 4 #[.agg a0, .slice a1 len1 cap1, .int .u8 a2] w fun e w' => e = .returned (.bool true) ∧ Below w.heap.size w w' := by
  obtain ⟨args, hll, hli, hls, hlc, hcm⟩ := w1.ints
  have hu2 := u8_of_wf w2
  obtain ⟨f, rfl⟩ := Int.eq_ofNat_of_zero_le hu2.1
  have hf : f ≤ 255 := by omega
  have HLS := Lib.hid hls
  have HLI := Lib.hid hli
  have HLL := Lib.hid hll
  have hnm2 : len1 ≤ 9223372036854775807 := by unfold maxLen at hcm; omega
  clear w1 w2 hu2 hlc hcm hls hli hll
  have mixed : Tryz.prog.follows .mixedOrders = true := by kernel_rfl
  obtain ⟨c, A1, k1, A2, k2, A3, k3, rfl, hce, hwf⟩ := w0
  have AW : Hid (∀ W, Calls Tryz.prog 9 #[] W fun e w' => e = .returned (.bool true) ∧ Below W.heap.size W w') := fun W => ckawake_any W
  have HK := Lib.hid (CeK.start hce)
  have HWF := Lib.hid hwf
  have hm1 : c.bs.length ≤ 9223372036854775807 := by have := hce.l1; unfold maxLen at this; omega
  clear hce hwf
  go_enter Tryz.func4, Tryz.ntmps4
  go_upto_region 1 with fail
  have hz0 : w.heap.size < (w.alloc (.cells #[.int .i64 c.sa, .int .i64 c.sr, .slice A1 c.bs.length k1, .int .i64 c.ta, .int .i64 c.tr, .int .i64 c.ts, .slice A2 c.ms.length k2, .slice A3 c.inv.length k3] 30)).heap.size := by simp
  generalize (w.alloc (.cells #[.int .i64 c.sa, .int .i64 c.sr, .slice A1 c.bs.length k1, .int .i64 c.ta, .int .i64 c.tr, .int .i64 c.ts, .slice A2 c.ms.length k2, .slice A3 c.inv.length k3] 30)) = W0 at *
  go_wp2_with fail
  refine (AW.out _).mono ?_
  rintro e W1 ⟨rfl, hb⟩
  have HK1 := Lib.hid (HK.out.next hb)
  clear hb HK hz0
  have c0 := HK1.out.row.cell 0; have c1 := HK1.out.row.cell 1; have c2 := HK1.out.row.cell 2; have c3 := HK1.out.row.cell 3
  have c4 := HK1.out.row.cell 4; have c5 := HK1.out.row.cell 5; have c6 := HK1.out.row.cell 6; have c7 := HK1.out.row.cell 7
  simp only [List.getElem?_toArray, List.getElem?_cons_zero, List.getElem?_cons_succ] at c0 c1 c2 c3 c4 c5 c6 c7
  go_wp2_with fail
  refine (rckfew_any W1 (HK1.out.see.more HK1.out.blw.size)).mono ?_
  rintro e W2 ⟨⟨b, rfl, hF⟩, hb⟩
  have HK2 := Lib.hid (HK1.out.next hb)
  clear hb HK1
  clear c0 c1 c2 c3 c4 c5 c6 c7
  cases b
  · go_wp2_with fail
    refine (AW.out _).mono ?_
    rintro e W9 ⟨rfl, hb⟩
    have HZ := Lib.hid (HK2.out.next hb)
    clear hb HK2
    go_wp2
    go_ret
    exact ⟨rfl, HZ.out.blw⟩
  · have HSM := Lib.hid (hF rfl)
    clear hF
    have c0 := HK2.out.row.cell 0; have c1 := HK2.out.row.cell 1; have c2 := HK2.out.row.cell 2; have c3 := HK2.out.row.cell 3
    have c4 := HK2.out.row.cell 4; have c5 := HK2.out.row.cell 5; have c6 := HK2.out.row.cell 6; have c7 := HK2.out.row.cell 7
    simp only [List.getElem?_toArray, List.getElem?_cons_zero, List.getElem?_cons_succ] at c0 c1 c2 c3 c4 c5 c6 c7
    go_wp2_with fail
    refine (pckcheck_any W2 (HK2.out.see.more HK2.out.blw.size) HSM.out HWF.out).mono ?_
    rintro e W3 ⟨rfl, hb⟩
    clear c0 c1 c2 c3 c4 c5 c6 c7
    have HK3 := Lib.hid (HK2.out.next hb)
    clear hb HK2
    have c0 := HK3.out.row.cell 0; have c1 := HK3.out.row.cell 1; have c2 := HK3.out.row.cell 2; have c3 := HK3.out.row.cell 3
    have c4 := HK3.out.row.cell 4; have c5 := HK3.out.row.cell 5; have c6 := HK3.out.row.cell 6; have c7 := HK3.out.row.cell 7
    simp only [List.getElem?_toArray, List.getElem?_cons_zero, List.getElem?_cons_succ] at c0 c1 c2 c3 c4 c5 c6 c7
    by_cases hacc : (checkC c).err = 0
    · have e1 : ((checkC c).err != 0) = false := by simp [hacc]
      have HACC := Lib.hid hacc
      clear hacc
      by_cases hlen : (len1 : Int) = c.sa
      · have e2 : ((len1 : Int) != c.sa) = false := by simp [hlen]
        have HLEN := Lib.hid hlen
        clear hlen
        obtain ⟨N, n, m, hfit⟩ := fitC_of (Decidable.byContradiction fun hv => by have h1 := HACC.out; unfold checkC at h1; rw [if_pos hv] at h1; exact hv h1) HSM.out HWF.out
        obtain ⟨N', n', m', s1, s2, s3, hS⟩ := checkC_sound HACC.out HWF.out.bs HWF.out.ms (args := args) (by rw [HLL.out]; exact HLEN.out) f
        obtain rfl : N' = N := by have := hfit.sr; omega
        obtain rfl : n' = n := by have := hfit.tr; omega
        obtain rfl : m' = m := by have := hfit.ts; omega
        have CS : Hid (∀ W, CeK w w.heap.size A1 k1 A2 k2 A3 k3 c W → Calls Tryz.prog 15 #[.agg #[.int .i64 c.sa, .int .i64 c.sr, .slice A1 c.bs.length k1, .int .i64 c.ta, .int .i64 c.tr, .int .i64 c.ts, .slice A2 c.ms.length k2, .slice A3 c.inv.length k3], .slice a1 len1 cap1, .int .i64 (f : Int)] W fun e w' => e = .returned (.bool true) ∧ Below W.heap.size W w') := fun W h => by
          have e1 := HLEN.out
          have e2 := HLL.out
          have e3 := hfit.eq
          have e4 := hfit.sa
          rw [s1, s2, s3, ← e3, ← e1, ← e2]
          exact csim_any cap1 f W (h.see.bs.more h.blw.size) (h.see.ms.more h.blw.size) ((HLS.out.below h.blw).more h.blw.size) hfit.hN hfit.hn hfit.hm (by omega) (by omega) hfit.fs hfit.ft hfit.b40 (by rw [← hfit.len]; exact hfit.b40) hfit.code hfit.mcode HLI.out hf hS
        clear hS hfit s1 s2 s3 HLS HLI HSM HWF
        have hfld := fun W => rp_err (.int .i64 (checkC c).err) (.int .i64 ((checkC c).blk : Int)) (.int .i64 ((checkC c).at_ : Int)) (.int .i64 ((checkC c).blocks : Int)) (.int .i64 ((checkC c).edges : Int)) (.int .i64 ((checkC c).steps : Int)) (.int .i64 ((checkC c).largest : Int)) W
        generalize checkC c = r at *
        go_wp2_with fail
        refine (CS.out W3 HK3.out).mono ?_
        rintro e W4 ⟨rfl, hb⟩
        have HK4 := Lib.hid (HK3.out.next hb)
        clear hb HK3 CS
        go_wp2
        go_ret
        exact ⟨rfl, HK4.out.blw⟩
      · have e2 : ((len1 : Int) != c.sa) = true := by simp [hlen]
        clear hlen HACC
        have hfld := fun W => rp_err (.int .i64 (checkC c).err) (.int .i64 ((checkC c).blk : Int)) (.int .i64 ((checkC c).at_ : Int)) (.int .i64 ((checkC c).blocks : Int)) (.int .i64 ((checkC c).edges : Int)) (.int .i64 ((checkC c).steps : Int)) (.int .i64 ((checkC c).largest : Int)) W
        generalize checkC c = r at *
        go_wp2
        go_ret
        exact ⟨rfl, HK3.out.blw⟩
    · have e1 : ((checkC c).err != 0) = true := by simp [hacc]
      clear hacc
      have hfld := fun W => rp_err (.int .i64 (checkC c).err) (.int .i64 ((checkC c).blk : Int)) (.int .i64 ((checkC c).at_ : Int)) (.int .i64 ((checkC c).blocks : Int)) (.int .i64 ((checkC c).edges : Int)) (.int .i64 ((checkC c).steps : Int)) (.int .i64 ((checkC c).largest : Int)) W
      generalize checkC c = r at *
      go_wp2
      go_ret
      exact ⟨rfl, HK3.out.blw⟩
end Go.Proofs.YtapdheabblgbaaaGreat
