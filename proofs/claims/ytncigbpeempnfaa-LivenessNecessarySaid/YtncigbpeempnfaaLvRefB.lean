/-
  The reference's Used.
-/
import Derived.Test.YtncigbpeempnfaaLvRefA
namespace Go.Proofs.Ytncigbpeempnfaa
open Go.RowKit
set_option linter.unusedVariables false

set_option maxRecDepth 100000 in
set_option maxHeartbeats 4000000 in
theorem rused23_any (A : Option Addr) (x : Blk) (c : Nat) (v : Int) (w : World) (hs : InsAt w w.heap.size A x.code) (hm : x.code.length ≤ 100000000) :
    Calls Try.prog 11 #[.agg #[.slice A x.code.length c, .int .i64 x.term.kind, .int .i64 x.term.a, .int .i64 x.term.to, .int .i64 x.term.el], .int .i64 v] w fun e w' => e = .returned (.bool (bUse x v)) ∧ Below w.heap.size w w' := by
  have hdf : ∀ (k : Nat) (W : World), InsAt W W.heap.size A x.code → k ≤ x.code.length → _ := fun k W h1 h2 => rdef23_any A x c v k W h1 h2 hm
  have HU : Hid (bUse x v = (lvU x.code v x.code.length || tUse x.term v && !lvD x.code v x.code.length)) := rfl
  obtain ⟨xs, ⟨kk, ta, tt, el⟩⟩ := x
  dsimp only at *
  have HDF := Lib.hid hdf
  generalize bUse ⟨xs, ⟨kk, ta, tt, el⟩⟩ v = res at *
  have HX := Lib.hid (Row.new w 34 #[.slice A xs.length c, .int .i64 kk, .int .i64 ta, .int .i64 tt, .int .i64 el])
  have hb0 : Below w.heap.size w (w.alloc (.cells #[.slice A xs.length c, .int .i64 kk, .int .i64 ta, .int .i64 tt, .int .i64 el] 34)) := (Below.refl _ _).alloc (Nat.le_refl _) _
  have hs0 := (hs.below hb0).more hb0.size
  have HB0 := Lib.hid hb0
  clear hs hb0 hdf
  go_enter Try.func11, Try.ntmps11
  go_upto_region 1 with fail
  generalize (w.alloc (.cells #[.slice A xs.length c, .int .i64 kk, .int .i64 ta, .int .i64 tt, .int .i64 el] 34)) = W0 at *
  obtain ⟨b1, hb1⟩ : ∃ z, w.heap.size = z := ⟨_, rfl⟩
  have h1w : b1 < W0.heap.size := by have := HX.out.lt; omega
  rw [hb1] at HX
  rw [hb1]
  have HB1 := Lib.hid hb1
  clear hb1
  go_upto_region 2 with fail
  go_loopw [5] (fun i wr => ∃ j : Nat, j ≤ xs.length ∧ i = .int .i64 j ∧ Hid (lvU xs v j = false) ∧ Hid (Below W0.heap.size W0 wr)) (fun i _ => xs.length - (intOf i).toNat)
  case atStart => exact ⟨0, Nat.zero_le _, rfl, rfl, Below.refl _ _⟩
  case round =>
    obtain ⟨j, hj, rfl, HD, HB⟩ := hrel
    have hX := HX.out.below HB.out h1w
    have y0 := hX.k0; have y1 := hX.k1; have y2 := hX.k2; have y3 := hX.k3; have y4 := hX.k4
    by_cases hlt : j < xs.length
    · obtain ⟨b', o, hA, hb, hx⟩ := (hs0.below HB.out).at_ hlt
      subst hA
      have HN := Lib.hid (lvU_succ xs v j hlt)
      generalize xs[j] = x at *
      obtain ⟨op, d, a, b, imm⟩ := x
      have f0 := hx.c0; have f1 := hx.c1; have f2 := hx.c2; have f3 := hx.c3; have f4 := hx.c4
      dsimp only at f0 f1 f2 f3 f4
      clear hx
      go_upto_region 5 with fail
      have HI := Row.new wr 56 #[.int .i64 op, .int .i64 d, .int .i64 a, .int .i64 b, .int .i64 imm]
      have HB5 := Lib.hid (HB.out.alloc HB.out.size (.cells #[.int .i64 op, .int .i64 d, .int .i64 a, .int .i64 b, .int .i64 imm] 56))
      have hX := hX.alloc (.cells #[.int .i64 op, .int .i64 d, .int .i64 a, .int .i64 b, .int .i64 imm] 56)
      clear f0 f1 f2 f3 f4 y0 y1 y2 y3 y4 HB
      generalize (wr.alloc (.cells #[.int .i64 op, .int .i64 d, .int .i64 a, .int .i64 b, .int .i64 imm] 56)) = W5 at *
      obtain ⟨xb, hxb⟩ : ∃ z, wr.heap.size = z := ⟨_, rfl⟩
      rw [hxb] at HI ⊢
      clear hxb
      have f0 := HI.k0; have f2 := HI.k2; have f3 := HI.k3
      have y0 := hX.k0; have y1 := hX.k1; have y2 := hX.k2; have y3 := hX.k3; have y4 := hX.k4
      have HS5 := Lib.hid ((hs0.below HB5.out).more HB5.out.size)
      clear HI hX
      have key : (uA op = true ∧ (a == v) = true) ∨ (uA op = true ∧ (a == v) = false ∧ uB op = true ∧ (b == v) = true) ∨ (uA op = false ∧ uB op = true ∧ (b == v) = true) ∨
          (uA op = true ∧ (a == v) = false ∧ uB op = true ∧ (b == v) = false) ∨ (uA op = true ∧ (a == v) = false ∧ uB op = false) ∨ (uA op = false ∧ uB op = true ∧ (b == v) = false) ∨ (uA op = false ∧ uB op = false) := by
        cases uA op <;> cases uB op <;> cases (a == v) <;> cases (b == v) <;> simp
      have hdf5 := HDF.out j _ HS5.out hj
      cases hdv : lvD xs v j
      · have HDV := Lib.hid hdv
        rw [hdv] at hdf5
        have HDF5 := Lib.hid hdf5
        clear hdf5 hdv
        rcases key with ⟨hA, e1⟩ | ⟨hA, e1, hB, e2⟩ | ⟨hA, hB, e2⟩ | ⟨hA, e1, hB, e2⟩ | ⟨hA, e1, hB⟩ | ⟨hA, hB, e2⟩ | ⟨hA, hB⟩
        · have HI := Lib.hid (show iUse ⟨op, d, a, b, imm⟩ v = true by simp [iUse, hA, e1])
          have HA := Lib.hid hA
          clear hA
          have HE : Hid (lvU xs v xs.length = true) := lvU_mono (show j + 1 ≤ xs.length by omega) (by rw [HN.out, HD.out, HDV.out, HI.out]; rfl)
          have HR : Hid (res = true) := by rw [Hid, HU.out, HE.out, Bool.true_or]
          go_wp2_with (first | (go_at_call 32; refine (rusesA_any op _ _ HA.out).mono ?_; rintro e w' ⟨rfl, rfl⟩) | (go_at_call 12; refine (HDF5.out).mono ?_; rintro e w' ⟨rfl, hbd⟩; have HBD := Lib.hid hbd; clear hbd))
          go_ret
          exact ⟨by rw [HR.out]; rfl, (HB0.out.trans (HB5.out.mono HB0.out.size)).trans (HBD.out.mono (by have := HB0.out.size; have := HB5.out.size; omega))⟩
        · have HI := Lib.hid (show iUse ⟨op, d, a, b, imm⟩ v = true by simp [iUse, hA, hB, e1, e2])
          have HA := Lib.hid hA
          have HB := Lib.hid hB
          clear hA hB
          have HE : Hid (lvU xs v xs.length = true) := lvU_mono (show j + 1 ≤ xs.length by omega) (by rw [HN.out, HD.out, HDV.out, HI.out]; rfl)
          have HR : Hid (res = true) := by rw [Hid, HU.out, HE.out, Bool.true_or]
          go_wp2_with (first | (go_at_call 32; refine (rusesA_any op _ _ HA.out).mono ?_; rintro e w' ⟨rfl, rfl⟩) | (go_at_call 33; refine (rusesB_any op _ _ HB.out).mono ?_; rintro e w' ⟨rfl, rfl⟩) | (go_at_call 12; refine (HDF5.out).mono ?_; rintro e w' ⟨rfl, hbd⟩; have HBD := Lib.hid hbd; clear hbd))
          go_ret
          exact ⟨by rw [HR.out]; rfl, (HB0.out.trans (HB5.out.mono HB0.out.size)).trans (HBD.out.mono (by have := HB0.out.size; have := HB5.out.size; omega))⟩
        · have HI := Lib.hid (show iUse ⟨op, d, a, b, imm⟩ v = true by simp [iUse, hA, hB, e2])
          have HA := Lib.hid hA
          have HB := Lib.hid hB
          clear hA hB
          have HE : Hid (lvU xs v xs.length = true) := lvU_mono (show j + 1 ≤ xs.length by omega) (by rw [HN.out, HD.out, HDV.out, HI.out]; rfl)
          have HR : Hid (res = true) := by rw [Hid, HU.out, HE.out, Bool.true_or]
          go_wp2_with (first | (go_at_call 32; refine (rusesA_any op _ _ HA.out).mono ?_; rintro e w' ⟨rfl, rfl⟩) | (go_at_call 33; refine (rusesB_any op _ _ HB.out).mono ?_; rintro e w' ⟨rfl, rfl⟩) | (go_at_call 12; refine (HDF5.out).mono ?_; rintro e w' ⟨rfl, hbd⟩; have HBD := Lib.hid hbd; clear hbd))
          go_ret
          exact ⟨by rw [HR.out]; rfl, (HB0.out.trans (HB5.out.mono HB0.out.size)).trans (HBD.out.mono (by have := HB0.out.size; have := HB5.out.size; omega))⟩
        · have HI := Lib.hid (show iUse ⟨op, d, a, b, imm⟩ v = false by simp [iUse, hA, hB, e1, e2])
          have HA := Lib.hid hA
          have HB := Lib.hid hB
          clear hA hB
          have HE : Hid (lvU xs v (j + 1) = false) := by rw [Hid, HN.out, HD.out, HI.out]; simp
          go_wp2_with (first | (go_at_call 32; refine (rusesA_any op _ _ HA.out).mono ?_; rintro e w' ⟨rfl, rfl⟩) | (go_at_call 33; refine (rusesB_any op _ _ HB.out).mono ?_; rintro e w' ⟨rfl, rfl⟩))
          go_roundw
          case rel => exact ⟨j + 1, by omega, by go_num, HE.out, HB5.out⟩
          case measure => simp [intOf]; omega
        · have HI := Lib.hid (show iUse ⟨op, d, a, b, imm⟩ v = false by simp [iUse, hA, hB, e1])
          have HA := Lib.hid hA
          have HB := Lib.hid hB
          clear hA hB
          have HE : Hid (lvU xs v (j + 1) = false) := by rw [Hid, HN.out, HD.out, HI.out]; simp
          go_wp2_with (first | (go_at_call 32; refine (rusesA_any op _ _ HA.out).mono ?_; rintro e w' ⟨rfl, rfl⟩) | (go_at_call 33; refine (rusesB_any op _ _ HB.out).mono ?_; rintro e w' ⟨rfl, rfl⟩))
          go_roundw
          case rel => exact ⟨j + 1, by omega, by go_num, HE.out, HB5.out⟩
          case measure => simp [intOf]; omega
        · have HI := Lib.hid (show iUse ⟨op, d, a, b, imm⟩ v = false by simp [iUse, hA, hB, e2])
          have HA := Lib.hid hA
          have HB := Lib.hid hB
          clear hA hB
          have HE : Hid (lvU xs v (j + 1) = false) := by rw [Hid, HN.out, HD.out, HI.out]; simp
          go_wp2_with (first | (go_at_call 32; refine (rusesA_any op _ _ HA.out).mono ?_; rintro e w' ⟨rfl, rfl⟩) | (go_at_call 33; refine (rusesB_any op _ _ HB.out).mono ?_; rintro e w' ⟨rfl, rfl⟩))
          go_roundw
          case rel => exact ⟨j + 1, by omega, by go_num, HE.out, HB5.out⟩
          case measure => simp [intOf]; omega
        · have HI := Lib.hid (show iUse ⟨op, d, a, b, imm⟩ v = false by simp [iUse, hA, hB])
          have HA := Lib.hid hA
          have HB := Lib.hid hB
          clear hA hB
          have HE : Hid (lvU xs v (j + 1) = false) := by rw [Hid, HN.out, HD.out, HI.out]; simp
          go_wp2_with (first | (go_at_call 32; refine (rusesA_any op _ _ HA.out).mono ?_; rintro e w' ⟨rfl, rfl⟩) | (go_at_call 33; refine (rusesB_any op _ _ HB.out).mono ?_; rintro e w' ⟨rfl, rfl⟩))
          go_roundw
          case rel => exact ⟨j + 1, by omega, by go_num, HE.out, HB5.out⟩
          case measure => simp [intOf]; omega
      · have HDV := Lib.hid hdv
        rw [hdv] at hdf5
        have HDF5 := Lib.hid hdf5
        clear hdf5 hdv
        rcases key with ⟨hA, e1⟩ | ⟨hA, e1, hB, e2⟩ | ⟨hA, hB, e2⟩ | ⟨hA, e1, hB, e2⟩ | ⟨hA, e1, hB⟩ | ⟨hA, hB, e2⟩ | ⟨hA, hB⟩
        · have HI := Lib.hid (show iUse ⟨op, d, a, b, imm⟩ v = true by simp [iUse, hA, e1])
          have HA := Lib.hid hA
          clear hA
          have HE : Hid (lvU xs v (j + 1) = false) := by rw [Hid, HN.out, HD.out, HDV.out]; simp
          go_wp2_with (first | (go_at_call 32; refine (rusesA_any op _ _ HA.out).mono ?_; rintro e w' ⟨rfl, rfl⟩) | (go_at_call 12; refine (HDF5.out).mono ?_; rintro e w' ⟨rfl, hbd⟩; have HBD := Lib.hid hbd; clear hbd))
          go_roundw
          case rel => exact ⟨j + 1, by omega, by go_num, HE.out, HB5.out.trans (HBD.out.mono HB5.out.size)⟩
          case measure => simp [intOf]; omega
        · have HI := Lib.hid (show iUse ⟨op, d, a, b, imm⟩ v = true by simp [iUse, hA, hB, e1, e2])
          have HA := Lib.hid hA
          have HB := Lib.hid hB
          clear hA hB
          have HE : Hid (lvU xs v (j + 1) = false) := by rw [Hid, HN.out, HD.out, HDV.out]; simp
          go_wp2_with (first | (go_at_call 32; refine (rusesA_any op _ _ HA.out).mono ?_; rintro e w' ⟨rfl, rfl⟩) | (go_at_call 33; refine (rusesB_any op _ _ HB.out).mono ?_; rintro e w' ⟨rfl, rfl⟩) | (go_at_call 12; refine (HDF5.out).mono ?_; rintro e w' ⟨rfl, hbd⟩; have HBD := Lib.hid hbd; clear hbd))
          go_roundw
          case rel => exact ⟨j + 1, by omega, by go_num, HE.out, HB5.out.trans (HBD.out.mono HB5.out.size)⟩
          case measure => simp [intOf]; omega
        · have HI := Lib.hid (show iUse ⟨op, d, a, b, imm⟩ v = true by simp [iUse, hA, hB, e2])
          have HA := Lib.hid hA
          have HB := Lib.hid hB
          clear hA hB
          have HE : Hid (lvU xs v (j + 1) = false) := by rw [Hid, HN.out, HD.out, HDV.out]; simp
          go_wp2_with (first | (go_at_call 32; refine (rusesA_any op _ _ HA.out).mono ?_; rintro e w' ⟨rfl, rfl⟩) | (go_at_call 33; refine (rusesB_any op _ _ HB.out).mono ?_; rintro e w' ⟨rfl, rfl⟩) | (go_at_call 12; refine (HDF5.out).mono ?_; rintro e w' ⟨rfl, hbd⟩; have HBD := Lib.hid hbd; clear hbd))
          go_roundw
          case rel => exact ⟨j + 1, by omega, by go_num, HE.out, HB5.out.trans (HBD.out.mono HB5.out.size)⟩
          case measure => simp [intOf]; omega
        · have HI := Lib.hid (show iUse ⟨op, d, a, b, imm⟩ v = false by simp [iUse, hA, hB, e1, e2])
          have HA := Lib.hid hA
          have HB := Lib.hid hB
          clear hA hB
          have HE : Hid (lvU xs v (j + 1) = false) := by rw [Hid, HN.out, HD.out, HI.out]; simp
          go_wp2_with (first | (go_at_call 32; refine (rusesA_any op _ _ HA.out).mono ?_; rintro e w' ⟨rfl, rfl⟩) | (go_at_call 33; refine (rusesB_any op _ _ HB.out).mono ?_; rintro e w' ⟨rfl, rfl⟩))
          go_roundw
          case rel => exact ⟨j + 1, by omega, by go_num, HE.out, HB5.out⟩
          case measure => simp [intOf]; omega
        · have HI := Lib.hid (show iUse ⟨op, d, a, b, imm⟩ v = false by simp [iUse, hA, hB, e1])
          have HA := Lib.hid hA
          have HB := Lib.hid hB
          clear hA hB
          have HE : Hid (lvU xs v (j + 1) = false) := by rw [Hid, HN.out, HD.out, HI.out]; simp
          go_wp2_with (first | (go_at_call 32; refine (rusesA_any op _ _ HA.out).mono ?_; rintro e w' ⟨rfl, rfl⟩) | (go_at_call 33; refine (rusesB_any op _ _ HB.out).mono ?_; rintro e w' ⟨rfl, rfl⟩))
          go_roundw
          case rel => exact ⟨j + 1, by omega, by go_num, HE.out, HB5.out⟩
          case measure => simp [intOf]; omega
        · have HI := Lib.hid (show iUse ⟨op, d, a, b, imm⟩ v = false by simp [iUse, hA, hB, e2])
          have HA := Lib.hid hA
          have HB := Lib.hid hB
          clear hA hB
          have HE : Hid (lvU xs v (j + 1) = false) := by rw [Hid, HN.out, HD.out, HI.out]; simp
          go_wp2_with (first | (go_at_call 32; refine (rusesA_any op _ _ HA.out).mono ?_; rintro e w' ⟨rfl, rfl⟩) | (go_at_call 33; refine (rusesB_any op _ _ HB.out).mono ?_; rintro e w' ⟨rfl, rfl⟩))
          go_roundw
          case rel => exact ⟨j + 1, by omega, by go_num, HE.out, HB5.out⟩
          case measure => simp [intOf]; omega
        · have HI := Lib.hid (show iUse ⟨op, d, a, b, imm⟩ v = false by simp [iUse, hA, hB])
          have HA := Lib.hid hA
          have HB := Lib.hid hB
          clear hA hB
          have HE : Hid (lvU xs v (j + 1) = false) := by rw [Hid, HN.out, HD.out, HI.out]; simp
          go_wp2_with (first | (go_at_call 32; refine (rusesA_any op _ _ HA.out).mono ?_; rintro e w' ⟨rfl, rfl⟩) | (go_at_call 33; refine (rusesB_any op _ _ HB.out).mono ?_; rintro e w' ⟨rfl, rfl⟩))
          go_roundw
          case rel => exact ⟨j + 1, by omega, by go_num, HE.out, HB5.out⟩
          case measure => simp [intOf]; omega
    · obtain rfl : j = xs.length := by omega
      have HSn := Lib.hid ((hs0.below HB.out).more HB.out.size)
      have hdfn := HDF.out xs.length _ HSn.out (Nat.le_refl _)
      have HBx := Lib.hid (HB0.out.trans (HB.out.mono HB0.out.size))
      by_cases hk1 : kk = 1
      · have e0 : (kk != 1) = false := by simp [hk1]
        have HR : Hid (res = false) := by rw [Hid, HU.out, HD.out, tUse]; simp [e0]
        clear hk1 hdfn
        go_wp2
        go_ret
        exact ⟨by rw [HR.out]; rfl, HBx.out⟩
      · have e0 : (kk != 1) = true := by simp [hk1]
        by_cases hav : ta = v
        · have e1 := eqb hav
          have HT : Hid (res = !lvD xs v xs.length) := by rw [Hid, HU.out, HD.out, tUse]; simp [e0, e1]
          have HDFn := Lib.hid hdfn
          clear hk1 hav hdfn
          generalize lvD xs v xs.length = dn at *
          go_wp2_with (go_at_call 12; refine (HDFn.out).mono ?_; rintro e w' ⟨rfl, hbd⟩; have HBD := Lib.hid hbd; clear hbd)
          go_ret
          exact ⟨by rw [HT.out]; rfl, HBx.out.trans (HBD.out.mono HBx.out.size)⟩
        · have e1 := neb hav
          have HR : Hid (res = false) := by rw [Hid, HU.out, HD.out, tUse]; simp [e1]
          clear hk1 hav hdfn
          go_wp2
          go_ret
          exact ⟨by rw [HR.out]; rfl, HBx.out⟩

end Go.Proofs.Ytncigbpeempnfaa
