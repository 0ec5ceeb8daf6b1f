/-
  The walk of the statement on the rows.
-/
import Derived.Test.YtimmnnadoeagfaaAlAwake
import Derived.Test.YtimmnnadoeagfaaAlIn
import Derived.Test.YtimmnnadoeagfaaAlChn
namespace Go.Proofs.Ytimmnnadoeagfaa
open Go.RowKit
set_option linter.unusedVariables false

theorem Chn.len {code : List In} {mach : List Mi} {i k : Nat} {r : List Rw} (h : Chn code mach i k r) : r.length + i ≤ code.length + 1 := by
  induction h with
  | last hi _ _ _ => simp; omega
  | step hi hx _ _ _ _ _ _ ih => simp; omega

set_option maxRecDepth 100000 in
set_option maxHeartbeats 4000000 in
theorem alR_big (A0 A1 : Option Addr) (n0 c0 n1 c1 : Nat) (w : World) (h : 300 < n0 ∨ 300 < n1) :
    Calls Try.prog 4 #[.slice A0 n0 c0, .slice A1 n1 c1] w fun e w' => e = .returned (.bool true) ∧ Below w.heap.size w w' := by
  have AW := Lib.hid fun W => awake_any W
  go_enter Try.func4, Try.ntmps4
  by_cases h0 : 300 < n0
  · have z0 : (300 : Int) < (n0 : Int) := by omega
    clear h
    go_wp2_with fail
    refine (AW.out _).mono ?_
    rintro e W1 ⟨rfl, hb⟩
    have HB := Lib.hid ((Below.refl w.heap.size w).trans (hb.mono (Below.refl w.heap.size w).size))
    clear hb
    go_wp2_with fail
    refine (AW.out _).mono ?_
    rintro e W2 ⟨rfl, hb⟩
    have HB2 := Lib.hid (HB.out.trans (hb.mono HB.out.size))
    clear hb
    go_wp2
    go_ret
    exact ⟨rfl, HB2.out⟩
  · have z0 : ¬ (300 : Int) < (n0 : Int) := by omega
    have z1 : (300 : Int) < (n1 : Int) := by omega
    clear h
    go_wp2_with fail
    refine (AW.out _).mono ?_
    rintro e W1 ⟨rfl, hb⟩
    have HB := Lib.hid ((Below.refl w.heap.size w).trans (hb.mono (Below.refl w.heap.size w).size))
    clear hb
    go_wp2_with fail
    refine (AW.out _).mono ?_
    rintro e W2 ⟨rfl, hb⟩
    have HB2 := Lib.hid (HB.out.trans (hb.mono HB.out.size))
    clear hb
    go_wp2
    go_ret
    exact ⟨rfl, HB2.out⟩

/-- What the walk carries: the blocks, the rows. -/
structure KAlR (w : World) (A0 : Option Addr) (n0 c0 : Nat) (code : List In) (A1 : Option Addr) (n1 c1 : Nat) (mach : List Mi) (Ar : Option Addr) (n cr : Nat) (l : List Rw) (W : World) : Prop where
  blw : Below w.heap.size w W
  c : CS W A0 n0 c0 code
  m : MS W A1 n1 c1 mach
  r : RS W Ar n cr l
theorem KAlR.below {w : World} {A0 : Option Addr} {n0 c0 : Nat} {code : List In} {A1 : Option Addr} {n1 c1 : Nat} {mach : List Mi} {Ar : Option Addr} {n cr : Nat} {l : List Rw} {W W' : World} (h : KAlR w A0 n0 c0 code A1 n1 c1 mach Ar n cr l W) (hb : Below W.heap.size W W') : KAlR w A0 n0 c0 code A1 n1 c1 mach Ar n cr l W' :=
  ⟨h.blw.trans (hb.mono h.blw.size), h.c.below hb, h.m.below hb, h.r.below hb⟩

set_option maxRecDepth 100000 in
set_option maxHeartbeats 16000000 in
theorem AlignRows_walk (a0 : Option Addr) (len0 cap0 : Nat) (a1 : Option Addr) (len1 cap1 : Nat) (w : World) (w0 : IsIns w a0 len0 cap0) (w1 : IsMis w a1 len1 cap1) :
    Calls Try.prog 4 #[.slice a0 len0 cap0, .slice a1 len1 cap1] w fun e w' => e = .returned (.bool true) ∧ Below w.heap.size w w' := by
  obtain ⟨code, _, hc⟩ := w0
  obtain ⟨mach, _, hm⟩ := w1
  by_cases hbig : 300 < len0 ∨ 300 < len1
  · exact alR_big _ _ _ _ _ _ w hbig
  · have z0 : ¬ (300 : Int) < (len0 : Int) := by omega
    have z1 : ¬ (300 : Int) < (len1 : Int) := by omega
    have n0 : len0 ≤ 300 := by omega
    have n1 : len1 ≤ 300 := by omega
    have mixed : Try.prog.follows .mixedOrders = true := by kernel_rfl
    have AW := Lib.hid fun W => awake_any W
    have HC0 := Lib.hid hc
    have HM0 := Lib.hid hm
    have ho := alC_out code mach
    have hcl := hc.len
    have hml := hm.len
    clear hc hm hbig
    rcases ho with ⟨R1, hR, hch⟩ | ⟨y, hR, hyl, hym⟩
    · have HR := Lib.hid hR
      have HCH := Lib.hid hch
      have hrl : R1.length ≤ 301 := by have := hch.len; omega
      rw [hml] at HR
      clear hR hch
      go_enter Try.func4, Try.ntmps4
      go_wp2_with fail
      refine (AW.out _).mono ?_
      rintro e W1 ⟨rfl, hb⟩
      have HB1 := Lib.hid hb
      have HC1 := Lib.hid (HC0.out.below hb)
      have HM1 := Lib.hid (HM0.out.below hb)
      have C := Lib.hid (alcode_at HC1.out HM1.out (by omega) (by omega) HR.out)
      clear hb AW HC0 HM0
      go_wp2_with fail
      refine C.out.mono ?_
      rintro e W2 ⟨Ar, cr, rfl, hP⟩
      have HK : Hid (KAlR w a0 len0 cap0 code a1 len1 cap1 mach Ar R1.length cr R1 W2) := ⟨HB1.out.trans (hP.blw.mono HB1.out.size), HC1.out.below hP.blw, HM1.out.below hP.blw, hP.rs⟩
      clear hP HB1 HC1 HM1 C HR
      go_wp2
      go_loopg [8, 9, 10] R1.length (fun g v8 v9 v10 wr => ∃ j i k : Nat, j + g = R1.length ∧ v8 = .int .i64 i ∧ v9 = .int .i64 k ∧ v10 = .int .i64 j ∧ Hid (Chn code mach i k (R1.drop j)) ∧ Hid (KAlR w a0 len0 cap0 code a1 len1 cap1 mach Ar R1.length cr R1 wr))
      case atStart => exact ⟨0, 0, 0, by omega, by go_num, by go_num, by go_num, HCH.out, HK.out⟩
      case round =>
        clear HK HCH
        obtain ⟨j, i, k, hg, rfl, rfl, rfl, HCH, HK⟩ := hrel
        obtain ⟨row, rest, hrow⟩ : ∃ x r, R1.drop j = x :: r := by
          rcases h : R1.drop j with _ | ⟨x, r⟩
          · exact absurd h HCH.out.ne
          · exact ⟨x, r, rfl⟩
        have hjl : j < R1.length := by
          rcases Nat.lt_or_ge j R1.length with h | h
          · exact h
          · rw [List.drop_eq_nil_of_le h] at hrow; cases hrow
        have hrow2 := List.drop_eq_getElem_cons hjl
        rw [hrow] at hrow2
        injection hrow2 with hr1 hr2
        rw [hrow] at HCH
        obtain ⟨b, o, rfl, hb, hx⟩ := HK.out.r.see.at_ hjl
        rw [← hr1] at hx
        have hjz : (j : Int) < (R1.length : Int) := by omega
        clear hr1 hrow
        have hch := HCH.out
        cases hch with
        | last hi hk hcc hmm =>
          have HCC : Hid (∀ z (h : z < code.length), i ≤ z → z < len0 → isC code[z] = true) := fun z h h1 _ => hcc z h h1
          have HMM : Hid (∀ z (h : z < mach.length), k ≤ z → z < len1 → isM mach[z] = true) := fun z h h1 _ => hmm z h h1
          have e5 : ((j : Int) == (R1.length : Int) - 1) = true := by
            have := congrArg List.length hr2
            simp at this
            simp
            omega
          rw [hcl, hml] at hx
          clear hcc hmm HCH hr2
          obtain ⟨f0, f1, f2, f3, f4, f5⟩ := hx
          dsimp only at f0 f1 f2 f3 f4 f5
          have CF : Hid (∀ W, Below wr.heap.size wr W → W.cell? ⟨b, o + j * 6, none⟩ = some (.int .i64 (i : Int)) ∧ W.cell? ⟨b, o + j * 6 + 1, none⟩ = some (.int .i64 (len0 : Int)) ∧ W.cell? ⟨b, o + j * 6 + 2, none⟩ = some (.int .i64 (k : Int)) ∧ W.cell? ⟨b, o + j * 6 + 3, none⟩ = some (.int .i64 (len1 : Int)) ∧ W.cell? ⟨b, o + j * 6 + 4, none⟩ = some (.int .i64 (-1)) ∧ W.cell? ⟨b, o + j * 6 + 5, none⟩ = some (.int .i64 (-1))) := fun W h => ⟨(h.cell (p := ⟨b, _, none⟩) hb).trans f0, (h.cell (p := ⟨b, _, none⟩) hb).trans f1, (h.cell (p := ⟨b, _, none⟩) hb).trans f2, (h.cell (p := ⟨b, _, none⟩) hb).trans f3, (h.cell (p := ⟨b, _, none⟩) hb).trans f4, (h.cell (p := ⟨b, _, none⟩) hb).trans f5⟩
          have g1 : ¬ (len0 : Int) < (i : Int) := by omega
          have g2 : ¬ (len1 : Int) < (k : Int) := by omega
          have g3 : ¬ (len0 : Int) < (len0 : Int) := by omega
          have g4 : ¬ (len1 : Int) < (len1 : Int) := by omega
          have g5 : ((i : Int) != (i : Int)) = false := by simp
          have g6 : ((k : Int) != (k : Int)) = false := by simp
          go_upto_region 13 with fail
          obtain ⟨wo, hwo⟩ : ∃ z, z = wr := ⟨_, rfl⟩
          subst hwo
          clear f0 f1 f2 f3 f4 f5
          go_wp2
          go_loopg [11] (len0 - i) (fun g v11 w3 => ∃ z : Nat, z + g = len0 ∧ i ≤ z ∧ v11 = .int .i64 z ∧ Hid (Below wo.heap.size wo w3))
          case atStart => exact ⟨i, by omega, Nat.le_refl _, by go_num, Below.refl _ _⟩
          case round =>
            obtain ⟨z, hgz, hiz, rfl, HB2⟩ := hrel
            obtain ⟨f0, f1, f2, f3, f4, f5⟩ := CF.out _ HB2.out
            by_cases hzl : z < len0
            · have hzz : (z : Int) < (len0 : Int) := by omega
              have hzc : z < code.length := by omega
              have hz0 : (z : Int) < (len0 : Int) := by omega
              obtain ⟨b1, o1, rfl, hb1, hx1⟩ := HK.out.c.see.at_ hzc
              have c0 := (hx1.keep hb1 fun _ hp => HB2.out.cell hp).c0
              have e2 : (code[z].op != 2) = false := by
                have := HCC.out z hzc hiz hzl
                simpa [isC] using this
              clear hx1
              generalize code[z].op = q at *
              go_wp2
              go_roundg (len0 - (z + 1))
              case measure => omega
              case rel => exact ⟨z + 1, by omega, by omega, by go_num, HB2.out⟩
            · have hzz : ¬ (z : Int) < (len0 : Int) := by omega
              have HK3 := Lib.hid (HK.out.below HB2.out)
              obtain ⟨wp, hwp⟩ : ∃ z, z = wr := ⟨_, rfl⟩
              subst hwp
              have CF : Hid (∀ W, Below wp.heap.size wp W → W.cell? ⟨b, o + j * 6, none⟩ = some (.int .i64 (i : Int)) ∧ W.cell? ⟨b, o + j * 6 + 1, none⟩ = some (.int .i64 (len0 : Int)) ∧ W.cell? ⟨b, o + j * 6 + 2, none⟩ = some (.int .i64 (k : Int)) ∧ W.cell? ⟨b, o + j * 6 + 3, none⟩ = some (.int .i64 (len1 : Int)) ∧ W.cell? ⟨b, o + j * 6 + 4, none⟩ = some (.int .i64 (-1)) ∧ W.cell? ⟨b, o + j * 6 + 5, none⟩ = some (.int .i64 (-1))) := fun W h => CF.out W (HB2.out.trans (h.mono HB2.out.size))
              clear f0 f1 f2 f3 f4 f5 HK HB2
              obtain ⟨f0, f1, f2, f3, f4, f5⟩ := CF.out _ (Below.refl _ _)
              go_wp2
              clear f0 f1 f2 f3 f4 f5 hzz
              go_loopg [12] (len1 - k) (fun g v12 w3 => ∃ z : Nat, z + g = len1 ∧ k ≤ z ∧ v12 = .int .i64 z ∧ Hid (Below wp.heap.size wp w3))
              case atStart => exact ⟨k, by omega, Nat.le_refl _, by go_num, Below.refl _ _⟩
              case round =>
                obtain ⟨z2, hgz2, hkz, rfl, HB3⟩ := hrel
                obtain ⟨f0, f1, f2, f3, f4, f5⟩ := CF.out _ HB3.out
                by_cases hzl2 : z2 < len1
                · have hzz : (z2 : Int) < (len1 : Int) := by omega
                  have hzc : z2 < mach.length := by omega
                  have hz0 : (z2 : Int) < (len1 : Int) := by omega
                  obtain ⟨b1, o1, rfl, hb1, hx1⟩ := HK3.out.m.see.at_ hzc
                  have c0 := (hx1.keep hb1 fun _ hp => HB3.out.cell hp).c0
                  have e2 : (mach[z2].op != 18) = false := by
                    have := HMM.out z2 hzc hkz hzl2
                    simpa [isM] using this
                  clear hx1
                  generalize mach[z2].op = q at *
                  go_wp2
                  go_roundg (len1 - (z2 + 1))
                  case measure => omega
                  case rel => exact ⟨z2 + 1, by omega, by omega, by go_num, HB3.out⟩
                · have hzz : ¬ (z2 : Int) < (len1 : Int) := by omega
                  have HK4 := Lib.hid (HK3.out.below HB3.out)
                  clear HK3
                  go_wp2
                  go_ret
                  exact ⟨rfl, HK4.out.blw⟩
        | @step _ _ x y _ hi hxl hk hyl hcc hmm hs hr =>
          have HCC : Hid (∀ z (h : z < code.length), i ≤ z → z < x → isC code[z] = true) := hcc
          have HMM : Hid (∀ z (h : z < mach.length), k ≤ z → z < y → isM mach[z] = true) := hmm
          have e5 : ((j : Int) == (R1.length : Int) - 1) = false := by
            have h1 := hr.ne
            rw [hr2] at h1
            have h2 : j + 1 < R1.length := by
              rcases Nat.lt_or_ge (j + 1) R1.length with h | h
              · exact h
              · exact absurd (List.drop_eq_nil_of_le h) h1
            simp
            omega
          have HSM := Lib.hid hs
          have HREST : Hid (Chn code mach (x + 1) (y + 1) (R1.drop (j + 1))) := by rw [← hr2]; exact hr
          have hx0 : x < len0 := by omega
          have hy0 : y < len1 := by omega
          clear hcc hmm HCH hr2 hs hr
          obtain ⟨f0, f1, f2, f3, f4, f5⟩ := hx
          dsimp only at f0 f1 f2 f3 f4 f5
          have CF : Hid (∀ W, Below wr.heap.size wr W → W.cell? ⟨b, o + j * 6, none⟩ = some (.int .i64 (i : Int)) ∧ W.cell? ⟨b, o + j * 6 + 1, none⟩ = some (.int .i64 (x : Int)) ∧ W.cell? ⟨b, o + j * 6 + 2, none⟩ = some (.int .i64 (k : Int)) ∧ W.cell? ⟨b, o + j * 6 + 3, none⟩ = some (.int .i64 (y : Int)) ∧ W.cell? ⟨b, o + j * 6 + 4, none⟩ = some (.int .i64 (x : Int)) ∧ W.cell? ⟨b, o + j * 6 + 5, none⟩ = some (.int .i64 (y : Int))) := fun W h => ⟨(h.cell (p := ⟨b, _, none⟩) hb).trans f0, (h.cell (p := ⟨b, _, none⟩) hb).trans f1, (h.cell (p := ⟨b, _, none⟩) hb).trans f2, (h.cell (p := ⟨b, _, none⟩) hb).trans f3, (h.cell (p := ⟨b, _, none⟩) hb).trans f4, (h.cell (p := ⟨b, _, none⟩) hb).trans f5⟩
          have g1 : ¬ (x : Int) < (i : Int) := by omega
          have g2 : ¬ (y : Int) < (k : Int) := by omega
          have g3 : ¬ (len0 : Int) < (x : Int) := by omega
          have g4 : ¬ (len1 : Int) < (y : Int) := by omega
          have g5 : ((i : Int) != (i : Int)) = false := by simp
          have g6 : ((k : Int) != (k : Int)) = false := by simp
          go_upto_region 13 with fail
          obtain ⟨wo, hwo⟩ : ∃ z, z = wr := ⟨_, rfl⟩
          subst hwo
          clear f0 f1 f2 f3 f4 f5
          go_wp2
          go_loopg [11] (x - i) (fun g v11 w3 => ∃ z : Nat, z + g = x ∧ i ≤ z ∧ v11 = .int .i64 z ∧ Hid (Below wo.heap.size wo w3))
          case atStart => exact ⟨i, by omega, Nat.le_refl _, by go_num, Below.refl _ _⟩
          case round =>
            obtain ⟨z, hgz, hiz, rfl, HB2⟩ := hrel
            obtain ⟨f0, f1, f2, f3, f4, f5⟩ := CF.out _ HB2.out
            by_cases hzl : z < x
            · have hzz : (z : Int) < (x : Int) := by omega
              have hzc : z < code.length := by omega
              have hz0 : (z : Int) < (len0 : Int) := by omega
              obtain ⟨b1, o1, rfl, hb1, hx1⟩ := HK.out.c.see.at_ hzc
              have c0 := (hx1.keep hb1 fun _ hp => HB2.out.cell hp).c0
              have e2 : (code[z].op != 2) = false := by
                have := HCC.out z hzc hiz hzl
                simpa [isC] using this
              clear hx1
              generalize code[z].op = q at *
              go_wp2
              go_roundg (x - (z + 1))
              case measure => omega
              case rel => exact ⟨z + 1, by omega, by omega, by go_num, HB2.out⟩
            · have hzz : ¬ (z : Int) < (x : Int) := by omega
              have HK3 := Lib.hid (HK.out.below HB2.out)
              obtain ⟨wp, hwp⟩ : ∃ z, z = wr := ⟨_, rfl⟩
              subst hwp
              have CF : Hid (∀ W, Below wp.heap.size wp W → W.cell? ⟨b, o + j * 6, none⟩ = some (.int .i64 (i : Int)) ∧ W.cell? ⟨b, o + j * 6 + 1, none⟩ = some (.int .i64 (x : Int)) ∧ W.cell? ⟨b, o + j * 6 + 2, none⟩ = some (.int .i64 (k : Int)) ∧ W.cell? ⟨b, o + j * 6 + 3, none⟩ = some (.int .i64 (y : Int)) ∧ W.cell? ⟨b, o + j * 6 + 4, none⟩ = some (.int .i64 (x : Int)) ∧ W.cell? ⟨b, o + j * 6 + 5, none⟩ = some (.int .i64 (y : Int))) := fun W h => CF.out W (HB2.out.trans (h.mono HB2.out.size))
              clear f0 f1 f2 f3 f4 f5 HK HB2
              obtain ⟨f0, f1, f2, f3, f4, f5⟩ := CF.out _ (Below.refl _ _)
              go_wp2
              clear f0 f1 f2 f3 f4 f5 hzz
              go_loopg [12] (y - k) (fun g v12 w3 => ∃ z : Nat, z + g = y ∧ k ≤ z ∧ v12 = .int .i64 z ∧ Hid (Below wp.heap.size wp w3))
              case atStart => exact ⟨k, by omega, Nat.le_refl _, by go_num, Below.refl _ _⟩
              case round =>
                obtain ⟨z2, hgz2, hkz, rfl, HB3⟩ := hrel
                obtain ⟨f0, f1, f2, f3, f4, f5⟩ := CF.out _ HB3.out
                by_cases hzl2 : z2 < y
                · have hzz : (z2 : Int) < (y : Int) := by omega
                  have hzc : z2 < mach.length := by omega
                  have hz0 : (z2 : Int) < (len1 : Int) := by omega
                  obtain ⟨b1, o1, rfl, hb1, hx1⟩ := HK3.out.m.see.at_ hzc
                  have c0 := (hx1.keep hb1 fun _ hp => HB3.out.cell hp).c0
                  have e2 : (mach[z2].op != 18) = false := by
                    have := HMM.out z2 hzc hkz hzl2
                    simpa [isM] using this
                  clear hx1
                  generalize mach[z2].op = q at *
                  go_wp2
                  go_roundg (y - (z2 + 1))
                  case measure => omega
                  case rel => exact ⟨z2 + 1, by omega, by omega, by go_num, HB3.out⟩
                · have hzz : ¬ (z2 : Int) < (y : Int) := by omega
                  have HK4 := Lib.hid (HK3.out.below HB3.out)
                  clear HK3
                  go_upto_region 27 with fail
                  have f6 := HK4.out.c.see.at_ hxl
                  have f7 := HK4.out.m.see.at_ hyl
                  obtain ⟨b1, o1, rfl, hb1, hx1⟩ := f6
                  obtain ⟨b2, o2, rfl, hb2, hx2⟩ := f7
                  generalize code[x] = ci at *
                  generalize mach[y] = mi at *
                  obtain ⟨x0, x1, x2, x3, x4⟩ := ci
                  obtain ⟨y0, y1, y2, y3, y4, y5, y6⟩ := mi
                  obtain ⟨r0, r1, r2, r3, r4⟩ := hx1
                  obtain ⟨_, d0, d1, d2, d3, d4, d5, d6⟩ := hx2
                  dsimp only at r0 r1 r2 r3 r4 d0 d1 d2 d3 d4 d5 d6
                  have C2 : Hid (∀ n os, Calls Try.prog 13 #[.agg #[.int .i64 x0, .int .i64 x1, .int .i64 x2, .int .i64 x3, .int .i64 x4], .agg #[.int .i64 y0, .int .i64 y1, .int .i64 y2, .int .i64 y3, .int .i64 y4, .int .i64 y5, .int .i64 y6]] (Go.Sort.grow (wr.drewN n) os) fun e w' => e = .returned (.bool (smP ⟨x0, x1, x2, x3, x4⟩ ⟨y0, y1, y2, y3, y4, y5, y6⟩)) ∧ ∃ q os', w' = Go.Sort.grow ((Go.Sort.grow (wr.drewN n) os).drewN q) os') := fun n os => alsame_any ⟨x0, x1, x2, x3, x4⟩ ⟨y0, y1, y2, y3, y4, y5, y6⟩ _
                  rw [HSM.out] at C2
                  have t0 := fun n os => Go.cell_grown (World.block_lt_of_cell? _ _ r0) r0 n os
                  have t1 := fun n os => Go.cell_grown (World.block_lt_of_cell? _ _ r1) r1 n os
                  have t2 := fun n os => Go.cell_grown (World.block_lt_of_cell? _ _ r2) r2 n os
                  have t3 := fun n os => Go.cell_grown (World.block_lt_of_cell? _ _ r3) r3 n os
                  have t4 := fun n os => Go.cell_grown (World.block_lt_of_cell? _ _ r4) r4 n os
                  have s0 := fun n os => Go.cell_grown (World.block_lt_of_cell? _ _ d0) d0 n os
                  have s1 := fun n os => Go.cell_grown (World.block_lt_of_cell? _ _ d1) d1 n os
                  have s2 := fun n os => Go.cell_grown (World.block_lt_of_cell? _ _ d2) d2 n os
                  have s3 := fun n os => Go.cell_grown (World.block_lt_of_cell? _ _ d3) d3 n os
                  have s4 := fun n os => Go.cell_grown (World.block_lt_of_cell? _ _ d4) d4 n os
                  have s5 := fun n os => Go.cell_grown (World.block_lt_of_cell? _ _ d5) d5 n os
                  have s6 := fun n os => Go.cell_grown (World.block_lt_of_cell? _ _ d6) d6 n os
                  have p4 := fun n os => Go.cell_grown (World.block_lt_of_cell? _ _ f4) f4 n os
                  have p5 := fun n os => Go.cell_grown (World.block_lt_of_cell? _ _ f5) f5 n os
                  have v1 : (x : Int) < (len0 : Int) := by omega
                  have v2 : (y : Int) < (len1 : Int) := by omega
                  have v3 : ¬ (len0 : Int) ≤ (x : Int) := by omega
                  have v4 : ¬ (len1 : Int) ≤ (y : Int) := by omega
                  have v5 : decide ((len0 : Int) ≤ (x : Int)) = false := decide_eq_false v3
                  have v6 : decide ((len1 : Int) ≤ (y : Int)) = false := decide_eq_false v4
                  have v7 : ((x : Int) != (x : Int)) = false := by simp
                  have v8 : ((y : Int) != (y : Int)) = false := by simp
                  clear r0 r1 r2 r3 r4 d0 d1 d2 d3 d4 d5 d6 f0 f1 f2 f3 f4 f5
                  go_wp2_with fail
                  go_quiet_grown (first | (go_at_call 13; refine Calls.grown_of (C2.out _ _)))
                  go_upto_region 29 with fail
                  have HK5 := Lib.hid (HK4.out.below (show Grew wr _ from ⟨nq, osq, rfl⟩).below)
                  clear t0 t1 t2 t3 t4 s0 s1 s2 s3 s4 s5 s6 p4 p5 C2 HK4
                  generalize Go.Sort.grow (wr.drewN nq) osq = W5 at *
                  go_wp2
                  go_roundg (R1.length - (j + 1))
                  case measure => omega
                  case rel => exact ⟨j + 1, x + 1, y + 1, by omega, by go_num, by go_num, by go_num, HREST.out, HK5.out⟩
    · have HR := Lib.hid hR
      have HYM := Lib.hid hym
      rw [hml] at hyl
      clear hR hym
      go_enter Try.func4, Try.ntmps4
      go_wp2_with fail
      refine (AW.out _).mono ?_
      rintro e W1 ⟨rfl, hb⟩
      have HB1 := Lib.hid hb
      have HC1 := Lib.hid (HC0.out.below hb)
      have HM1 := Lib.hid (HM0.out.below hb)
      have C := Lib.hid (alcode_at HC1.out HM1.out (by omega) (by omega) HR.out)
      clear hb AW HC0 HM0
      go_wp2_with fail
      refine C.out.mono ?_
      rintro e W2 ⟨Ar, cr, rfl, hP⟩
      have HB2 := Lib.hid (HB1.out.trans (hP.blw.mono HB1.out.size))
      have HM2 := Lib.hid (HM1.out.below hP.blw)
      clear hP HB1 HC1 HM1 C HR
      have y0 : (0 : Int) ≤ (y : Int) := by omega
      have y1 : (y : Int) ≤ (len1 : Int) := by omega
      by_cases hye : y = len1
      · have e1 : ((y : Int) == (len1 : Int)) = true := by simp [hye]
        clear hye
        go_wp2
        go_ret
        exact ⟨rfl, HB2.out⟩
      · have e1 : ((y : Int) == (len1 : Int)) = false := by simp; omega
        have hyc : y < mach.length := by omega
        have hyz : (y : Int) < (len1 : Int) := by omega
        obtain ⟨b1, o1, rfl, hb1, hx1⟩ := HM2.out.see.at_ hyc
        have c0 := hx1.c0
        have e2 : (mach[y].op != 18) = true := by
          have := HYM.out hyc
          simp only [isM] at this
          simp [bne, this]
        clear hx1 hye
        generalize mach[y].op = q at *
        go_wp2
        go_ret
        exact ⟨rfl, HB2.out⟩

end Go.Proofs.Ytimmnnadoeagfaa
