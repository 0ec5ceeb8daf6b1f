/-
  The walk of the statement on slots.
-/
import Derived.Test.YtcoehkphdfejjaaSaHead
import Derived.Test.YtcoehkphdfejjaaPk41
import Derived.Test.YtcoehkphdfejjaaRunAwake
import Derived.Test.YtcoehkphdfejjaaExAwake
import Derived.Test.YtcoehkphdfejjaaPk1
namespace Go.Proofs.Ytcoehkphdfejjaa
open Go.RowKit Go.Deep
set_option linter.unusedVariables false
set_option linter.unusedSimpArgs false

theorem spC_eMF {a r : Int} {bs : List Blk} (h : eF a r bs = 0) (hf : FewF r bs) (hl : longB bs = false) : eMF a 2 r (bs.map spB) = 0 := by
  have hv := spC_valid h hf hl
  refine Decidable.byContradiction fun hn => ?_
  have : validC (spC a r bs) = eMF a 2 r (bs.map spB) := by
    show (if eF a r bs ≠ 0 then eF a r bs else if eMF a 2 r (bs.map spB) ≠ 0 then eMF a 2 r (bs.map spB) else _) = _
    rw [if_neg (by rw [h]; simp), if_pos hn]
  rw [this] at hv
  exact hn hv

theorem sameI_refl22 (l : List Int) : sameI l l = true := by simp [sameI]

set_option maxRecDepth 100000 in
set_option maxHeartbeats 8000000 in
theorem SpillallSlots_walk (a0 : Array Value) (a1 : Option Addr) (len1 cap1 : Nat) (z1 : List Int) (a2 : Int) (w : World) (w0 : IsFn w a0) (w1 : IsRow .i64 w a1 len1 cap1 z1) (w2 : (Lit.int .u8 a2).wf = true) :
    Calls Try.prog 4 #[.agg a0, .slice a1 len1 cap1, .int .u8 a2] w fun e w' => e = .returned (.bool true) ∧ Below w.heap.size w w' := by
  obtain ⟨args, hll, hli, hls, hlc, hcm⟩ := w1.ints
  have hu2 := u8_of_wf w2
  obtain ⟨f, rfl⟩ := Int.eq_ofNat_of_zero_le hu2.1
  have hf : f ≤ 255 := by omega
  have HLS := Lib.hid hls
  have HLI := Lib.hid hli
  have HLL := Lib.hid hll
  have hnm2 : len1 ≤ maxLen := by omega
  clear w1 w2 hu2 hlc hcm hls hli hll
  have mixed : Try.prog.follows .mixedOrders = true := by kernel_rfl
  obtain ⟨a, r, A, bs, c, rfl, _, _, hlc, hcm, hbs, hwf⟩ := w0
  have HZ : Hid (FZ w a r A bs c (w.alloc (.cells #[.int .i64 a, .int .i64 r, .slice A bs.length c] 24))) := FZ.start hbs
  have HWF := Lib.hid hwf
  have hml : bs.length ≤ maxLen := Nat.le_trans hlc hcm
  clear hbs hwf hlc hcm
  go_enter Try.func4, Try.ntmps4
  go_upto_region 1 with fail
  generalize (w.alloc (.cells #[.int .i64 a, .int .i64 r, .slice A bs.length c] 24)) = W0 at *
  obtain ⟨xb, hxb⟩ : ∃ z, w.heap.size = z := ⟨_, rfl⟩
  rw [hxb]
  go_wp2_with fail
  refine (awake22_any _).mono ?_
  rintro e W1 ⟨rfl, hb⟩
  have HZ1 := Lib.hid (HZ.out.next hb)
  clear hb HZ
  have x0 := HZ1.out.row.k0; have x1 := HZ1.out.row.k1; have x2 := HZ1.out.row.k2
  rw [hxb] at x0 x1 x2
  have C1 := Lib.hid (right9_any _ A a1 bs c len1 cap1 a r 0 W1 HZ1.out.at_ (Nat.le_refl _) hml hnm2)
  go_wp2_with fail
  refine C1.out.mono ?_
  rintro e W2 ⟨⟨b, rfl, hF⟩, hb⟩
  have HZ2 := Lib.hid (HZ1.out.next hb)
  clear hb HZ1 C1 x0 x1 x2
  have hl2 : len1 ≤ 9223372036854775807 := by unfold maxLen at hnm2; omega
  clear hnm2
  cases b
  · go_wp2_with fail
    refine (awake22_any _).mono ?_
    rintro e W3 ⟨rfl, hb⟩
    have HZ3 := Lib.hid (HZ2.out.next hb)
    clear hb HZ2
    go_wp2
    go_ret
    exact ⟨rfl, HZ3.out.blw⟩
  · obtain ⟨hf0, her, _, hna⟩ := hF rfl
    obtain ⟨f1, f2, f3⟩ := id hf0
    have HF := Lib.hid hf0
    have HE0 := Lib.hid her
    have x0 := HZ2.out.row.k0; have x1 := HZ2.out.row.k1; have x2 := HZ2.out.row.k2
    rw [hxb] at x0 x1 x2
    clear hF her hf0
    by_cases hla : (len1 : Int) = a
    · have e1 : ((len1 : Int) != a) = false := by simp [hla]
      have HLA := Lib.hid hla
      clear hla
      have C2 := Lib.hid (cert22 A bs c a r W2 HZ2.out.at_ HF.out)
      go_upto_region 3 with fail
      go_wp2_with fail
      refine C2.out.mono ?_
      rintro e W4 ⟨A1, c1, A2, c2, A3, c3, rfl, n1, n2, n3⟩
      have HZ4 := Lib.hid (HZ2.out.next n1.blw)
      have hsee := SaP.see n1 n2 n3 (spR_ok (by omega))
      clear HZ2 C2 x0 x1 x2 n1 n2 n3
      have hsr : spR a r bs = if longB bs = true then (nCt, 15) else (spC a r bs, 0) := by unfold spR; rw [HE0.out, if_neg (by simp)]
      cases hlg : longB bs
      · rw [hlg] at hsr
        simp only [Bool.false_eq_true, if_false] at hsr
        rw [hsr] at hsee ⊢
        dsimp only at hsee
        obtain ⟨i2, hi2⟩ : ∃ z, (bs.map spB).length = z := ⟨_, rfl⟩
        obtain ⟨i3, hi3⟩ : ∃ z, (bs.map fun _ => invN r.toNat).length = z := ⟨_, rfl⟩
        obtain ⟨N, hN, hA0, hAN, hOK⟩ := eF_ok HE0.out HWF.out
        have hNn : (N : Int) = r := hN.symm
        obtain ⟨n', m', hn', hm', _, _, hOM⟩ := eMF_ok (show eMF a 2 r (bs.map spB) = 0 from spC_eMF HE0.out HF.out hlg) (spC_wf HE0.out HWF.out).ms
        have hn2 : n' = 2 := by omega
        have hmN : m' = N := by omega
        subst hn2 hmN
        have HSEE := Lib.hid hsee
        have HI2 := Lib.hid hi2
        simp only [spC, hi2, hi3]
        have CI : Hid (∀ W, FZ w a r A bs c W → Calls Try.prog 16 #[.agg #[.int .i64 a, .int .i64 r, .slice A bs.length c], .slice a1 len1 cap1, .int .i64 (f : Int)] W (RunQ W (runR bs (rn0 m' args) f) 0)) := fun W h =>
          exec_at c cap1 args m' bs a r (f : Int) len1 bs.length _ (by rw [HLL.out]; exact HLA.out) hNn rfl HLL.out (by rw [Int.toNat_natCast]) ((HLS.out.below h.blw).more h.blw.size) h.at_ (Nat.le_refl _) (by omega) (by have := HLA.out; omega) hOK HLI.out (by omega) (by omega) (by omega)
        have hsmc := spBs_len bs
        have CX : Hid (∀ W (k : Nat), FZ w a r A bs c W → MBlksAt W W.heap.size A2 (bs.map spB) → k ≤ 20000 → Calls Try.prog 17 #[.agg #[.int .i64 a, .int .i64 2, .int .i64 r, .slice A2 i2 c2], .slice a1 len1 cap1, .int .i64 (k : Int)] W (XQ W (runX (bs.map spB) (xn0 2 m' args) k) 0)) := fun W k h hmb hk =>
          xexec_at c2 cap1 args 2 m' (bs.map spB) a 2 r (k : Int) len1 i2 _ (by rw [HLL.out]; exact HLA.out) rfl hNn HI2.out HLL.out (by rw [Int.toNat_natCast]) ((HLS.out.below h.blw).more h.blw.size) hmb (Nat.le_refl _) (by omega) (by omega) (by have := HLA.out; omega) hOM HLI.out (by omega) (by rw [← HI2.out, List.length_map]; omega) (by omega)
        have HSL := Lib.hid fun h1 => spC_slots HE0.out HF.out hlg HWF.out (args := args) (by rw [HLL.out]; exact HLA.out) hN f h1
        clear hsr hsee hi2 hi3 hOK hOM hn' hm' hN hNn hAN hA0 hlg hsmc
        have hb4 : Below W4.heap.size W4 (W4.alloc (.cells #[.int .i64 a, .int .i64 r, .slice A1 bs.length c1, .int .i64 a, .int .i64 2, .int .i64 r, .slice A2 i2 c2, .slice A3 i3 c3] 32)) := (Below.refl _ _).alloc (Nat.le_refl _) _
        have HZ5 := Lib.hid (HZ4.out.next hb4)
        have HCR5 := Lib.hid (Row.new W4 32 #[.int .i64 a, .int .i64 r, .slice A1 bs.length c1, .int .i64 a, .int .i64 2, .int .i64 r, .slice A2 i2 c2, .slice A3 i3 c3])
        have HSE5 := Lib.hid ((HSEE.out.below hb4).more hb4.size)
        clear HZ4 HSEE hb4
        go_upto_region 6 with fail
        generalize (W4.alloc (.cells #[.int .i64 a, .int .i64 r, .slice A1 bs.length c1, .int .i64 a, .int .i64 2, .int .i64 r, .slice A2 i2 c2, .slice A3 i3 c3] 32)) = W5 at *
        generalize W4.heap.size = cb at *
        have x0 := HZ5.out.row.k0; have x1 := HZ5.out.row.k1; have x2 := HZ5.out.row.k2
        rw [hxb] at x0 x1 x2
        have hcv : IntKind.i64.wrap (f : Int) = (f : Int) := by rw [IntKind.wrap_i64]; omega
        go_wp2_with fail
        refine (CI.out _ HZ5.out).mono ?_
        rintro e W6 ⟨RA, rc, SA, sc, TA, tc, rfl, hv, hb⟩
        have hstp := (run_steps bs (rn0 m' args) f).1
        generalize runR bs (rn0 m' args) f = s at *
        have hss : s.steps ≤ 255 := by
          have h0 : (rn0 m' args).steps = 0 := rfl
          omega
        have hb4 : Below W6.heap.size W6 (W6.alloc (.cells #[.int .i64 s.st, .int .i64 (s.blk : Int), .int .i64 (s.pos : Int), .int .i64 s.val, .slice RA s.regs.length rc, .slice SA 0 sc, .slice TA s.trace.length tc, .int .i64 (s.steps : Int)] 54)) := (Below.refl _ _).alloc (Nat.le_refl _) _
        have hb7 := hb.trans (hb4.mono hb.size)
        have HV7 := Lib.hid (hv.below hb4)
        have HR7 := Lib.hid (Row.new W6 54 #[.int .i64 s.st, .int .i64 (s.blk : Int), .int .i64 (s.pos : Int), .int .i64 s.val, .slice RA s.regs.length rc, .slice SA 0 sc, .slice TA s.trace.length tc, .int .i64 (s.steps : Int)])
        have HZ7 := Lib.hid (HZ5.out.next hb7)
        have HCR7 := Lib.hid (HCR5.out.below hb7 HCR5.out.lt)
        have HSE7 := Lib.hid ((HSE5.out.below hb7).more hb7.size)
        clear HZ5 HCR5 HSE5 hb7 hb4 hb hv x0 x1 x2 CI hstp hcv
        go_upto_region 7 with fail
        generalize (W6.alloc (.cells #[.int .i64 s.st, .int .i64 (s.blk : Int), .int .i64 (s.pos : Int), .int .i64 s.val, .slice RA s.regs.length rc, .slice SA 0 sc, .slice TA s.trace.length tc, .int .i64 (s.steps : Int)] 54)) = W7 at *
        generalize W6.heap.size = sb at *
        have s0 := HR7.out.k0
        by_cases hst : s.st = 1
        · have e3 : (s.st != 1) = false := by simp [hst]
          obtain ⟨v1, v2, v3, v4, v5⟩ := HSL.out hst
          have HST := Lib.hid hst
          clear hst HSL
          go_upto_region 9 with fail
          clear s0
          have CXX := Lib.hid (CX.out W7 (65 * s.steps) HZ7.out HSE7.out.ms (by omega))
          have s7 := HR7.out.k7
          have k3 := HCR7.out.k3; have k4 := HCR7.out.k4; have k5 := HCR7.out.k5; have k6 := HCR7.out.k6
          have hwm : IntKind.i64.wrap (65 * (s.steps : Int)) = ((65 * s.steps : Nat) : Int) := by rw [IntKind.wrap_i64]; omega
          generalize runX (bs.map spB) (xn0 2 m' args) (65 * s.steps) = t at *
          generalize 65 * s.steps = k at *
          go_wp2_with fail
          refine CXX.out.mono ?_
          rintro e W8 ⟨RB, rd, SB, sd, TB, td, rfl, hv, hb⟩
          obtain ⟨tst, tblk, tpos, tval, tregs, tslots, ttrace, tsteps⟩ := t
          dsimp only at v1 v2 v3 v4 v5 ⊢
          subst v1 v2 v3 v4 v5
          have hb4 : Below W8.heap.size W8 (W8.alloc (.cells #[.int .i64 1, .int .i64 (s.blk : Int), .int .i64 (tpos : Int), .int .i64 s.val, .slice RB tregs.length rd, .slice SB s.regs.length sd, .slice TB s.trace.length td, .int .i64 (tsteps : Int)] 54)) := (Below.refl _ _).alloc (Nat.le_refl _) _
          have hb9 := hb.trans (hb4.mono hb.size)
          have HX9 := Lib.hid (hv.below hb4)
          have HT9 := Lib.hid (Row.new W8 54 #[.int .i64 1, .int .i64 (s.blk : Int), .int .i64 (tpos : Int), .int .i64 s.val, .slice RB tregs.length rd, .slice SB s.regs.length sd, .slice TB s.trace.length td, .int .i64 (tsteps : Int)])
          have HZ9 := Lib.hid (HZ7.out.next hb9)
          have HV9 := Lib.hid (HV7.out.below hb9)
          have HR9 := Lib.hid (HR7.out.below hb9 HR7.out.lt)
          clear HZ7 HV7 HR7 HCR7 HSE7 hb4 hb9 hb hv s7 k3 k4 k5 k6 CXX CX hwm
          go_upto_region 10 with fail
          generalize (W8.alloc (.cells #[.int .i64 1, .int .i64 (s.blk : Int), .int .i64 (tpos : Int), .int .i64 s.val, .slice RB tregs.length rd, .slice SB s.regs.length sd, .slice TB s.trace.length td, .int .i64 (tsteps : Int)] 54)) = W9 at *
          generalize W8.heap.size = tb at *
          have CV1 : Hid (∀ n, Calls Try.prog 18 #[.slice SB s.regs.length sd, .slice RA s.regs.length rc] (W9.drewN n) fun e w' => e = .returned (.bool true) ∧ ∃ n, W9.drewN n = w') := fun n => by
            have h1 := HX9.out.sss
            have h2 := HV9.out.srs
            have := (vals_any W9.heap.size SB RA s.regs s.regs sd rc (W9.drewN n) h1 h2 (Nat.le_trans (own_len HX9.out.slots).1 (own_len HX9.out.slots).2) (Nat.le_trans (own_len HX9.out.slots).1 (own_len HX9.out.slots).2))
            rw [sameI_refl22] at this
            exact this.mono fun e w' ⟨he, m, hm⟩ => ⟨he, n + m, by rw [← hm]; exact (World.drewN_drewN ..).symm⟩
          have CV2 : Hid (∀ n, Calls Try.prog 18 #[.slice TB s.trace.length td, .slice TA s.trace.length tc] (W9.drewN n) fun e w' => e = .returned (.bool true) ∧ ∃ n, W9.drewN n = w') := fun n => by
            have h1 := sees_own HX9.out.trace
            have h2 := HV9.out.str
            have := (vals_any W9.heap.size TB TA s.trace s.trace td tc (W9.drewN n) h1 h2 (Nat.le_trans (own_len HX9.out.trace).1 (own_len HX9.out.trace).2) (Nat.le_trans (own_len HX9.out.trace).1 (own_len HX9.out.trace).2))
            rw [sameI_refl22] at this
            exact this.mono fun e w' ⟨he, m, hm⟩ => ⟨he, n + m, by rw [← hm]; exact (World.drewN_drewN ..).symm⟩
          have t0 := HT9.out.k0; have t1 := HT9.out.k1; have t3 := HT9.out.k3; have t5 := HT9.out.k5; have t6 := HT9.out.k6
          have s1 := HR9.out.k1; have s3 := HR9.out.k3; have s4 := HR9.out.k4; have s6 := HR9.out.k6
          go_wp2_with fail
          refine (CV1.out 0).mono ?_
          rintro e W10 ⟨rfl, n1, rfl⟩
          go_wp2_with fail
          refine (CV2.out _).mono ?_
          rintro e W11 ⟨rfl, n2, rfl⟩
          go_wp2
          go_ret
          exact ⟨rfl, HZ9.out.blw.trans ((blw_drew W9 n2).mono HZ9.out.blw.size)⟩
        · have e3 : (s.st != 1) = true := by simp [hst]
          go_wp2
          go_ret
          exact ⟨rfl, HZ7.out.blw⟩
      · rw [hlg] at hsr
        simp only [if_true] at hsr
        rw [hsr] at hsee ⊢
        simp only [nCt, List.length_nil]
        have hb4 : Below W4.heap.size W4 (W4.alloc (.cells #[.int .i64 0, .int .i64 0, .slice A1 0 c1, .int .i64 0, .int .i64 0, .int .i64 0, .slice A2 0 c2, .slice A3 0 c3] 32)) := (Below.refl _ _).alloc (Nat.le_refl _) _
        have HZ5 := Lib.hid (HZ4.out.next hb4)
        clear HZ4 hsee hb4 hsr
        go_wp2
        go_ret
        exact ⟨rfl, HZ5.out.blw⟩
    · have e1 : ((len1 : Int) != a) = true := by simp [hla]
      go_wp2_with fail
      refine (awake22_any _).mono ?_
      rintro e W4 ⟨rfl, hb⟩
      have HZ4 := Lib.hid (HZ2.out.next hb)
      clear hb HZ2
      go_wp2
      go_ret
      exact ⟨rfl, HZ4.out.blw⟩

end Go.Proofs.Ytcoehkphdfejjaa
