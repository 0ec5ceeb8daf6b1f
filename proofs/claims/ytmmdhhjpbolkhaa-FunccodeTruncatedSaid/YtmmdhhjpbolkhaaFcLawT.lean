/-
  The walk of FunccodeTruncated.
-/
import Derived.Test.YtmmdhhjpbolkhaaFcAwake
import Derived.Test.YtmmdhhjpbolkhaaFcMenc
import Derived.Test.YtmmdhhjpbolkhaaPk7
import Derived.Test.YtmmdhhjpbolkhaaMacRchk
import Derived.Test.YtmmdhhjpbolkhaaSmMac
namespace Go.Proofs.Ytmmdhhjpbolkhaa
open Go.RowKit
set_option linter.unusedVariables false
set_option linter.unusedSimpArgs false

theorem u16_of18 {x : Int} (h : (Lit.int .u16 x).wf = true) : 0 ≤ x ∧ x ≤ 65535 := by
  simp [Lit.wf, IntKind.min, IntKind.max, IntKind.signed, IntKind.bits] at h
  omega

set_option maxRecDepth 100000 in
set_option maxHeartbeats 4000000 in
theorem FunccodeTruncated_walk (a0 : Array Value) (a1 : Int) (w : World) (w0 : IsMFn w a0) (w1 : (Lit.int .u16 a1).wf = true) :
    Calls Try.prog 4 #[.agg a0, .int .u16 a1] w fun e w' => e = .returned (.bool true) ∧ Below w.heap.size w w' := by
  obtain ⟨args, regs, slots, A, bs, c, rfl, ia, ir, is, hcl, hcm, hblk, hwf⟩ := w0
  obtain ⟨k0, k1⟩ := u16_of18 w1
  clear w1
  have hrow := Row.new w 34 #[.int .i64 args, .int .i64 regs, .int .i64 slots, .slice A bs.length c]
  have HB := Lib.hid ((Below.refl w.heap.size w).alloc (Nat.le_refl _) (.cells #[.int .i64 args, .int .i64 regs, .int .i64 slots, .slice A bs.length c] 34))
  have HK := Lib.hid hblk
  have HWF : Hid (∀ b ∈ bs, ∀ x ∈ b.code, InI x.imm) := fun b hb x hx => i64_of_wf ((hwf b hb).1 x hx).2.2.2.2.1
  have hbm : bs.length ≤ maxLen := Nat.le_trans hcl hcm
  clear hblk hwf ia ir is hcl hcm
  go_enter Try.func4, Try.ntmps4
  go_wp2_with fail
  refine (awake18_any _).mono ?_
  rintro e W1 ⟨rfl, hb⟩
  have HB1 := Lib.hid (HB.out.trans (hb.mono HB.out.size))
  have h1 := hrow.below hb hrow.lt
  have p0 := h1.cell 0; have p1 := h1.cell 1; have p2 := h1.cell 2; have p3 := h1.cell 3
  simp only [List.getElem?_toArray, List.getElem?_cons_zero, List.getElem?_cons_succ] at p0 p1 p2 p3
  have R1 := Lib.hid h1
  clear hb h1 hrow HB
  have C1 := Lib.hid (rmfew_any w.heap.size A bs c args regs slots W1 (HK.out.below HB1.out) HB1.out.size hbm)
  unfold maxLen at hbm
  go_wp2_with fail
  refine C1.out.mono ?_
  rintro e W2 ⟨⟨bb, rfl, hfew⟩, hb⟩
  have HB2 := Lib.hid (HB1.out.trans (hb.mono HB1.out.size))
  have h2 := R1.out.below hb R1.out.lt
  clear p0 p1 p2 p3
  have p0 := h2.cell 0; have p1 := h2.cell 1; have p2 := h2.cell 2; have p3 := h2.cell 3
  simp only [List.getElem?_toArray, List.getElem?_cons_zero, List.getElem?_cons_succ] at p0 p1 p2 p3
  have R2 := Lib.hid h2
  have HFW := Lib.hid hfew
  clear hb h2 HB1 R1 C1 hfew
  cases bb
  · clear p0 p1 p2 p3
    go_wp2_with fail
    refine (awake18_any _).mono ?_
    rintro e W3 ⟨rfl, hb⟩
    have HB3 := Lib.hid (HB2.out.trans (hb.mono HB2.out.size))
    go_wp2
    go_ret
    exact ⟨rfl, HB3.out⟩
  · obtain ⟨w1, w2, w3, w4⟩ := HFW.out rfl
    clear HFW
    have C2 := Lib.hid (rmcheck_any w.heap.size A bs c args regs slots W2 (HK.out.below HB2.out) HB2.out.size (by omega) (by omega))
    by_cases hv : eMF args regs slots bs = 0
    · rw [hv] at C2
      have hvg : VG ⟨args, regs, slots, bs⟩ := VG.of hv HWF.out
      have HCUT := Lib.hid fun j (hj : j < (encG ⟨args, regs, slots, bs⟩).length) => mfuncE_cut (g := ⟨args, regs, slots, bs⟩) hv HWF.out hj
      have l1 := hvg.len
      have l0 : 0 < (encG ⟨args, regs, slots, bs⟩).length := by
        have h9 : (encG ⟨args, regs, slots, bs⟩).length = _ := congrArg List.length (show encG ⟨args, regs, slots, bs⟩ = putS args.toNat ++ (putS regs.toNat ++ (putS slots.toNat ++ (putS bs.length ++ encMBs bs))) from rfl)
        have h8 : 0 < (putS args.toNat).length := putS_pos args.toNat
        rw [h9, List.length_append]
        omega
      have C3 := Lib.hid fun W (hb : MBlksAt W w.heap.size A bs) (hsz : w.heap.size ≤ W.heap.size) => rputmf18_any w.heap.size A bs c args regs slots W hb hsz ⟨hvg.a.1, by have := hvg.a.2; dsimp only at this; omega⟩ ⟨hvg.r.1, by have := hvg.r.2; dsimp only at this; omega⟩ ⟨hvg.s.1, by have := hvg.s.2; dsimp only at this; omega⟩ (by omega) (fun x hx => (hvg.v x hx).pb) (by omega)
      have HBY := Lib.hid hvg.byt
      clear hvg hv
      obtain ⟨l, hl⟩ : ∃ z, z = encG ⟨args, regs, slots, bs⟩ := ⟨_, rfl⟩
      rw [← hl] at C3 HBY HCUT l0 l1
      clear hl
      go_wp2_with fail
      refine C2.out.mono ?_
      rintro e W3 ⟨rfl, hb⟩
      have HB3 := Lib.hid (HB2.out.trans (hb.mono HB2.out.size))
      have h2 := R2.out.below hb R2.out.lt
      clear p0 p1 p2 p3
      have p0 := h2.cell 0; have p1 := h2.cell 1; have p2 := h2.cell 2; have p3 := h2.cell 3
      simp only [List.getElem?_toArray, List.getElem?_cons_zero, List.getElem?_cons_succ] at p0 p1 p2 p3
      clear hb h2 HB2 R2 C2
      have C4 := Lib.hid (C3.out W3 (HK.out.below HB3.out) HB3.out.size)
      clear C3
      go_wp2_with fail
      refine C4.out.mono ?_
      rintro e W4 ⟨A4, c4, rfl, ho, hb⟩
      have HB4 := Lib.hid (HB3.out.trans (hb.mono HB3.out.size))
      have HS := Lib.hid (Sees.of_own ho)
      have hc4 : l.length ≤ c4 := by
        obtain ⟨A, c, he, hc, _⟩ := own_slice ho (bts_length _)
        injection he with e1 e2 e3
        omega
      clear ho hb HB3 C4 p0 p1 p2 p3
      have m0 : 0 ≤ a1 % (l.length : Int) := Int.emod_nonneg _ (by omega)
      have m1 : a1 % (l.length : Int) < (l.length : Int) := Int.emod_lt_of_pos _ (by omega)
      have m2 : a1 % (l.length : Int) ≤ (c4 : Int) := by omega
      go_wp2_with fail
      generalize (a1 % (l.length : Int)) = z at *
      obtain ⟨k, rfl⟩ : ∃ k : Nat, z = k := ⟨z.toNat, by omega⟩
      have hk : k < l.length := by omega
      have C5 := new_any A4 (l.take k) W4.heap.size c4 W4 (by have := HS.out.take (k := k); unfold bts at *; rwa [List.map_take]) (Nat.le_refl _) (fun x hx => HBY.out x (List.mem_of_mem_take hx)) (by rw [List.length_take]; omega)
      have hlk : (l.take k).length = k := by rw [List.length_take]; omega
      rw [hlk] at C5
      have HC := Lib.hid (HCUT.out k hk)
      clear HCUT HBY HS
      refine C5.mono ?_
      rintro e W5 ⟨p, A5, c5, rfl, hp, hc, hb⟩
      have HB5 := Lib.hid (HB4.out.trans (hb.mono HB4.out.size))
      have HP := Lib.hid hp
      have C6 : Hid (Calls Try.prog 9 #[.pointer (some ⟨p, 0, none⟩)] W5 fun e W' => ∃ A6 c6 i6 A' c', e = .returned (.agg #[.int .i64 0, .int .i64 0, .int .i64 0, .slice A6 0 c6]) ∧ Mods (Is p) W5 W' ∧ Cur W' W4.heap.size p (l.take k) i6 1 A' c') :=
        (pmfunc_any hc (g := ⟨0, 0, 0, []⟩) (t := (mfuncE ⟨(l.take k), 0⟩).2) (by rw [List.drop_zero, ← HC.out.1])).mono (by
          rintro e W' ⟨v, vs, rfl, hn, hm, i', hc, _⟩
          obtain ⟨A6, c6, rfl, _, _⟩ := ownS_slice hn.outer
          have hl : vs.length = 0 := hn.len
          rw [HC.out.2] at hc
          rw [hl]
          exact ⟨A6, c6, i', _, _, rfl, hm, hc⟩)
      have HW4 := Lib.hid HB4.out.size
      clear hb hc hp HB4 HC C5
      go_wp2_with fail
      refine C6.out.mono ?_
      rintro e W6 ⟨A6, c6, i6, A7, c7, rfl, hm, hc6⟩
      have HB6 := Lib.hid ((HB5.out.trans (hm.below HB5.out.size (fun k hk => by unfold Is at hk; have := HP.out; have := HW4.out; omega))).alloc (Nat.le_trans HB5.out.size hm.size) (.cells #[.int .i64 0, .int .i64 0, .int .i64 0, .slice A6 0 c6] 34))
      have HC6 := Lib.hid (hc6.mods ((Mods.refl No W6).alloc (.cells #[.int .i64 0, .int .i64 0, .int .i64 0, .slice A6 0 c6] 34)) fun _ h => h.elim)
      have hr6 := Row.new W6 34 #[.int .i64 0, .int .i64 0, .int .i64 0, .slice A6 0 c6]
      have g0 := hr6.cell 0; have g1 := hr6.cell 1; have g2 := hr6.cell 2; have g3 := hr6.cell 3
      simp only [List.getElem?_toArray, List.getElem?_cons_zero, List.getElem?_cons_succ] at g0 g1 g2 g3
      clear hm hc6 HB5 C6 hr6
      go_upto_region 8 with fail
      generalize (W6.alloc (.cells #[.int .i64 0, .int .i64 0, .int .i64 0, .slice A6 0 c6] 34)) = V6 at *
      go_wp2_with fail
      refine (err_any HC6.out).mono ?_
      rintro e W7 ⟨rfl, rfl⟩
      have C8 : Hid (Calls Try.prog 15 #[.agg #[.int .i64 0, .int .i64 0, .int .i64 0, .slice A6 0 c6], .agg #[.int .i64 0, .int .i64 0, .int .i64 0, .slice none 0 0]] V6 fun e w' => e = .returned (.bool true) ∧ Below V6.heap.size V6 w') :=
        rsame8_any V6.heap.size A6 none [] c6 0 0 0 0 V6 MBlksAt.nil MBlksAt.nil (Nat.le_refl _) (by decide) (by decide)
      go_wp2_with fail
      refine C8.out.mono ?_
      rintro e W8 ⟨rfl, hb⟩
      have HB8 := Lib.hid (HB6.out.trans (hb.mono HB6.out.size))
      go_wp2
      go_ret
      exact ⟨rfl, HB8.out⟩
    · have HV := Lib.hid hv
      clear hv
      go_wp2_with fail
      refine C2.out.mono ?_
      rintro e W3 ⟨rfl, hb⟩
      have HB3 := Lib.hid (HB2.out.trans (hb.mono HB2.out.size))
      have d1 : (eMF args regs slots bs != 0) = true := by have := HV.out; simp [this]
      clear hb HB2 C2 p0 p1 p2 p3
      go_wp2_with fail
      refine (awake18_any _).mono ?_
      rintro e W4 ⟨rfl, hb⟩
      have HB4 := Lib.hid (HB3.out.trans (hb.mono HB3.out.size))
      go_wp2
      go_ret
      exact ⟨rfl, HB4.out⟩

end Go.Proofs.Ytmmdhhjpbolkhaa
