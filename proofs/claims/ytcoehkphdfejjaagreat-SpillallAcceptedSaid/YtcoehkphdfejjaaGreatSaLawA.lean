/-
  The walk of the statement on acceptance.
-/
import Derived.Test.YtcoehkphdfejjaaGreatSaHead
import Derived.Test.YtcoehkphdfejjaaGreatPk41
import Derived.Test.YtcoehkphdfejjaaGreatCkProg
import Derived.Test.YtcoehkphdfejjaaGreatSmCd
import Derived.Test.YtcoehkphdfejjaaGreatPk2
namespace Go.Proofs.YtcoehkphdfejjaaGreat
open Go.RowKit Go.Deep
set_option linter.unusedVariables false
set_option linter.unusedSimpArgs false

set_option maxRecDepth 100000 in
set_option maxHeartbeats 8000000 in
theorem SpillallAccepted_walk (a0 : Array Value) (w : World) (w0 : IsFn w a0) :
    Calls Tryz.prog 3 #[.agg a0] w fun e w' => e = .returned (.bool true) ∧ Below w.heap.size w w' := by
  obtain ⟨a, r, A, bs, c, rfl, _, _, hlc, hcm, hbs, hwf⟩ := w0
  have HZ : Hid (FZ w a r A bs c (w.alloc (.cells #[.int .i64 a, .int .i64 r, .slice A bs.length c] 24))) := FZ.start hbs
  have HWF := Lib.hid hwf
  have hml : bs.length ≤ maxLen := Nat.le_trans hlc hcm
  clear hbs hwf hlc hcm
  go_enter Tryz.func3, Tryz.ntmps3
  go_upto_region 1 with fail
  generalize (w.alloc (.cells #[.int .i64 a, .int .i64 r, .slice A bs.length c] 24)) = W0 at *
  obtain ⟨xb, hxb⟩ : ∃ z, w.heap.size = z := ⟨_, rfl⟩
  rw [hxb]
  go_wp2_with fail
  refine (awake22_any _).mono ?_
  rintro e W1 ⟨rfl, hb⟩
  have HZ1 := Lib.hid (HZ.out.next hb)
  clear hb HZ
  have x0 := HZ1.out.row.k0; have x1 := HZ1.out.row.k1; have x2 := HZ1.out.row.k2
  rw [hxb] at x0 x1 x2
  have C1 := Lib.hid (rfew_any _ A bs c a r W1 HZ1.out.at_ (Nat.le_refl _) hml)
  go_wp2_with fail
  refine C1.out.mono ?_
  rintro e W2 ⟨⟨b, rfl, hF⟩, hb⟩
  have HZ2 := Lib.hid (HZ1.out.next hb)
  clear hb HZ1 C1 x0 x1 x2
  cases b
  · go_wp2_with fail
    refine (awake22_any _).mono ?_
    rintro e W3 ⟨rfl, hb⟩
    have HZ3 := Lib.hid (HZ2.out.next hb)
    clear hb HZ2
    go_wp2
    go_ret
    exact ⟨rfl, HZ3.out.blw⟩
  · have hf := hF rfl
    obtain ⟨f1, f2, f3⟩ := id hf
    have HF := Lib.hid hf
    have x0 := HZ2.out.row.k0; have x1 := HZ2.out.row.k1; have x2 := HZ2.out.row.k2
    rw [hxb] at x0 x1 x2
    have C1 := Lib.hid (rcheck_any _ A bs c a r W2 HZ2.out.at_ (Nat.le_refl _) (by omega) (by omega))
    obtain ⟨er, her⟩ : ∃ z, eF a r bs = z := ⟨_, rfl⟩
    rw [her] at C1
    have HER := Lib.hid her
    clear her hF hf
    go_wp2_with fail
    refine C1.out.mono ?_
    rintro e W3 ⟨rfl, hb⟩
    have HZ3 := Lib.hid (HZ2.out.next hb)
    clear hb HZ2 C1 x0 x1 x2
    by_cases hz : er = 0
    · have e1 : (er != 0) = false := by simp [hz]
      have her := HER.out
      rw [hz] at her
      have HE0 := Lib.hid her
      clear her HER hz
      have C2 := Lib.hid (cert22 A bs c a r W3 HZ3.out.at_ HF.out)
      have x0 := HZ3.out.row.k0; have x1 := HZ3.out.row.k1; have x2 := HZ3.out.row.k2
      rw [hxb] at x0 x1 x2
      go_upto_region 3 with fail
      go_wp2_with fail
      refine C2.out.mono ?_
      rintro e W4 ⟨A1, c1, A2, c2, A3, c3, rfl, n1, n2, n3⟩
      have HZ4 := Lib.hid (HZ3.out.next n1.blw)
      have hsee := SaP.see n1 n2 n3 (spR_ok (by omega))
      clear HZ3 C2 x0 x1 x2 n1 n2 n3
      have hsr : spR a r bs = if longB bs = true then (nCt, 15) else (spC a r bs, 0) := by unfold spR; rw [HE0.out, if_neg (by simp)]
      cases hlg : longB bs
      · rw [hlg] at hsr
        simp only [Bool.false_eq_true, if_false] at hsr
        rw [hsr] at hsee ⊢
        dsimp only at hsee
        obtain ⟨hv, hk, hbk⟩ := spC_acc HE0.out HF.out hlg HWF.out
        have hcw := spC_wf HE0.out HWF.out
        have hsm := spC_sm HE0.out HF.out
        obtain ⟨i2, hi2⟩ : ∃ z, (bs.map spB).length = z := ⟨_, rfl⟩
        obtain ⟨i3, hi3⟩ : ∃ z, (bs.map fun _ => invN r.toNat).length = z := ⟨_, rfl⟩
        have CK : Hid (∀ W, CeAt W W.heap.size A1 c1 A2 c2 A3 c3 (spC a r bs) → Calls Tryz.prog 9 #[.agg #[.int .i64 a, .int .i64 r, .slice A1 bs.length c1, .int .i64 a, .int .i64 2, .int .i64 r, .slice A2 i2 c2, .slice A3 i3 c3]] W (RpP W (checkC (spC a r bs)))) := fun W h => by
          have := pckcheck_any W h hsm hcw
          rw [← hi2, ← hi3]
          exact this
        have CV : Hid (∀ W, CeAt W W.heap.size A1 c1 A2 c2 A3 c3 (spC a r bs) → Calls Tryz.prog 10 #[.agg #[.int .i64 a, .int .i64 r, .slice A1 bs.length c1, .int .i64 a, .int .i64 2, .int .i64 r, .slice A2 i2 c2, .slice A3 i3 c3]] W fun e w' => e = .returned (.int .i64 0) ∧ Below W.heap.size W w') := fun W h => by
          have := pckvalid_any W h hsm hcw
          rw [hv] at this
          rw [← hi2, ← hi3]
          exact this
        have HSEE := Lib.hid hsee
        have HBS := Lib.hid hsee.bs
        obtain ⟨rp, hrp⟩ : ∃ z, checkC (spC a r bs) = z := ⟨_, rfl⟩
        rw [hrp] at CK hk hbk
        obtain ⟨r0, r1, r2, r3, r4, r5, r6⟩ := rp
        dsimp only at hk hbk
        subst hk
        rw [hbk] at CK
        clear hbk hrp hsr hv hcw hsm hsee r3
        simp only [spC, hi2, hi3]
        have HI2 := Lib.hid hi2
        have HI3 := Lib.hid hi3
        clear hi2 hi3 hlg
        have hb4 : Below W4.heap.size W4 (W4.alloc (.cells #[.int .i64 a, .int .i64 r, .slice A1 bs.length c1, .int .i64 a, .int .i64 2, .int .i64 r, .slice A2 i2 c2, .slice A3 i3 c3] 33)) := (Below.refl _ _).alloc (Nat.le_refl _) _
        have HZ5 := Lib.hid (HZ4.out.next hb4)
        have HCR5 := Lib.hid (Row.new W4 33 #[.int .i64 a, .int .i64 r, .slice A1 bs.length c1, .int .i64 a, .int .i64 2, .int .i64 r, .slice A2 i2 c2, .slice A3 i3 c3])
        have HSE5 := Lib.hid ((HSEE.out.below hb4).more hb4.size)
        clear HZ4 HSEE HBS hb4
        go_upto_region 6 with fail
        generalize (W4.alloc (.cells #[.int .i64 a, .int .i64 r, .slice A1 bs.length c1, .int .i64 a, .int .i64 2, .int .i64 r, .slice A2 i2 c2, .slice A3 i3 c3] 33)) = W5 at *
        generalize W4.heap.size = cb at *
        have k0 := HCR5.out.k0; have k1 := HCR5.out.k1; have k2 := HCR5.out.k2; have k3 := HCR5.out.k3; have k4 := HCR5.out.k4; have k5 := HCR5.out.k5; have k6 := HCR5.out.k6; have k7 := HCR5.out.k7
        go_wp2_with fail
        refine (CK.out _ HSE5.out).mono ?_
        rintro e W6 ⟨rfl, hb⟩
        have hb4 : Below W6.heap.size W6 (W6.alloc (.cells #[.int .i64 0, .int .i64 (r1 : Int), .int .i64 (r2 : Int), .int .i64 (bs.length : Int), .int .i64 (r4 : Int), .int .i64 (r5 : Int), .int .i64 (r6 : Int)] 39)) := (Below.refl _ _).alloc (Nat.le_refl _) _
        have hb7 := hb.trans (hb4.mono hb.size)
        have HR7 := Lib.hid (Row.new W6 39 #[.int .i64 0, .int .i64 (r1 : Int), .int .i64 (r2 : Int), .int .i64 (bs.length : Int), .int .i64 (r4 : Int), .int .i64 (r5 : Int), .int .i64 (r6 : Int)])
        have HZ7 := Lib.hid (HZ5.out.next hb7)
        have HCR7 := Lib.hid (HCR5.out.below hb7 HCR5.out.lt)
        have HSE7 := Lib.hid ((HSE5.out.below hb7).more hb7.size)
        clear HZ5 HCR5 HSE5 hb7 hb4 hb k0 k1 k2 k3 k4 k5 k6 k7 CK
        go_upto_region 7 with fail
        generalize (W6.alloc (.cells #[.int .i64 0, .int .i64 (r1 : Int), .int .i64 (r2 : Int), .int .i64 (bs.length : Int), .int .i64 (r4 : Int), .int .i64 (r5 : Int), .int .i64 (r6 : Int)] 39)) = W7 at *
        generalize W6.heap.size = rb at *
        have k0 := HCR7.out.k0; have k1 := HCR7.out.k1; have k2 := HCR7.out.k2; have k3 := HCR7.out.k3; have k4 := HCR7.out.k4; have k5 := HCR7.out.k5; have k6 := HCR7.out.k6; have k7 := HCR7.out.k7
        go_wp2_with fail
        refine (CV.out _ HSE7.out).mono ?_
        rintro e W8 ⟨rfl, hb⟩
        have HR8 := Lib.hid (HR7.out.below hb HR7.out.lt)
        have HZ8 := Lib.hid (HZ7.out.next hb)
        have HCR8 := Lib.hid (HCR7.out.below hb HCR7.out.lt)
        have HSE8 := Lib.hid ((HSE7.out.below hb).more hb.size)
        clear HZ7 HCR7 HSE7 HR7 hb k0 k1 k2 k3 k4 k5 k6 k7 CV
        have x0 := HZ8.out.row.k0; have x1 := HZ8.out.row.k1; have x2 := HZ8.out.row.k2
        rw [hxb] at x0 x1 x2
        have k0 := HCR8.out.k0; have k1 := HCR8.out.k1; have k2 := HCR8.out.k2
        have p0 := HR8.out.k0; have p3 := HR8.out.k3
        have C7 := Lib.hid (rsame7_all _ A1 A bs bs c1 c a r a r W8 HSE8.out.bs HZ8.out.at_ (Nat.le_refl _) (by omega) (by omega) (by omega) (by omega) true (by simp))
        go_wp2_with fail
        refine C7.out.mono ?_
        rintro e W9 ⟨rfl, hb⟩
        have HZ9 := Lib.hid (HZ8.out.next hb)
        clear hb
        go_wp2
        go_ret
        exact ⟨rfl, HZ9.out.blw⟩
      · rw [hlg] at hsr
        simp only [if_true] at hsr
        rw [hsr] at hsee ⊢
        simp only [nCt, List.length_nil]
        have C6 : Hid (∀ W, CeAt W W.heap.size A1 c1 A2 c2 A3 c3 nCt → Calls Tryz.prog 8 #[.agg #[.int .i64 0, .int .i64 0, .slice A1 0 c1, .int .i64 0, .int .i64 0, .int .i64 0, .slice A2 0 c2, .slice A3 0 c3], .agg #[.int .i64 0, .int .i64 0, .slice none 0 0, .int .i64 0, .int .i64 0, .int .i64 0, .slice none 0 0, .slice none 0 0]] W fun e w' => e = .returned (.bool true) ∧ Below W.heap.size W w') := fun W h => rsame16_all W h (nCt_see W) ⟨by decide, by decide⟩ ⟨by decide, by decide⟩ ⟨by decide, by decide⟩ ⟨by decide, by decide⟩ ⟨by decide, by decide⟩ true (by simp)
        have hb4 : Below W4.heap.size W4 (W4.alloc (.cells #[.int .i64 0, .int .i64 0, .slice A1 0 c1, .int .i64 0, .int .i64 0, .int .i64 0, .slice A2 0 c2, .slice A3 0 c3] 33)) := (Below.refl _ _).alloc (Nat.le_refl _) _
        have HZ5 := Lib.hid (HZ4.out.next hb4)
        have HCR5 := Lib.hid (Row.new W4 33 #[.int .i64 0, .int .i64 0, .slice A1 0 c1, .int .i64 0, .int .i64 0, .int .i64 0, .slice A2 0 c2, .slice A3 0 c3])
        have HSE5 := Lib.hid ((hsee.below hb4).more hb4.size)
        clear HZ4 hsee hb4 hsr
        go_upto_region 5 with fail
        generalize (W4.alloc (.cells #[.int .i64 0, .int .i64 0, .slice A1 0 c1, .int .i64 0, .int .i64 0, .int .i64 0, .slice A2 0 c2, .slice A3 0 c3] 33)) = W5 at *
        generalize W4.heap.size = cb at *
        have k0 := HCR5.out.k0; have k1 := HCR5.out.k1; have k2 := HCR5.out.k2; have k3 := HCR5.out.k3; have k4 := HCR5.out.k4; have k5 := HCR5.out.k5; have k6 := HCR5.out.k6; have k7 := HCR5.out.k7
        go_wp2_with fail
        refine (C6.out _ HSE5.out).mono ?_
        rintro e W6 ⟨rfl, hb⟩
        have HZ6 := Lib.hid (HZ5.out.next hb)
        clear hb
        go_wp2
        go_ret
        exact ⟨rfl, HZ6.out.blw⟩
    · have e1 : (er != 0) = true := by simp [hz]
      go_wp2_with fail
      refine (awake22_any _).mono ?_
      rintro e W4 ⟨rfl, hb⟩
      have HZ4 := Lib.hid (HZ3.out.next hb)
      clear hb HZ3
      go_wp2
      go_ret
      exact ⟨rfl, HZ4.out.blw⟩

end Go.Proofs.YtcoehkphdfejjaaGreat
