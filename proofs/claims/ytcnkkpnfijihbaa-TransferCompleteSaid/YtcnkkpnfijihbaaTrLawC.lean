/-
  The walk of the statement on completeness.
-/
import Derived.Test.YtcnkkpnfijihbaaTrLawS
namespace Go.Proofs.Ytcnkkpnfijihbaa
open Go.RowKit
set_option linter.unusedVariables false

/-- Bytes as integers. -/
def toI (l : List Nat) : List Int := l.map fun (x : Nat) => (x : Int)
theorem toI_take {l : List Nat} {k : Nat} (hk : k < l.length) : toI (l.take (k + 1)) = toI (l.take k) ++ [((l[k] : Nat) : Int)] := by
  unfold toI
  rw [List.take_succ_eq_append_getElem hk, List.map_append]
  rfl
theorem toI_ne {l : List Nat} (h : Byt l) : ∀ u ∈ toI l, u ≠ (1000 : Int) := fun u hu => by
  obtain ⟨x, hx, rfl⟩ := List.mem_map.1 hu
  have := h x hx
  omega
theorem bts_at {w : World} {B : Nat} {A : Option Addr} {l : List Nat} (h : Sees w B A (bts l)) {k : Nat} (hk : k < l.length) : ∃ b o, A = some ⟨b, o, none⟩ ∧ b < B ∧ w.cell? ⟨b, o + k, none⟩ = some (.int .u8 ((l[k] : Nat) : Int)) := by
  have hg : (bts l)[k]? = some (.int .u8 ((l[k] : Nat) : Int)) := by simp [bts, hk]
  obtain ⟨b, o, e, hb, hc⟩ := h (fun e => by rw [e] at hg; cases hg)
  exact ⟨b, o, e, hb, hc k _ hg⟩

set_option maxRecDepth 100000 in
set_option maxHeartbeats 8000000 in
theorem complete_big (n0 n1 : Nat) (A0 A1 : Option Addr) (c0 c1 : Nat) (a2 a3 a4 a5 : Int) (w : World) (h : n0 = 0 ∨ n1 = 0 ∨ 20 < n0 ∨ 20 < n1) :
    Calls Try.prog 5 #[.slice A0 n0 c0, .slice A1 n1 c1, .int .u8 a2, .int .u8 a3, .int .u8 a4, .int .u8 a5] w fun e w' => e = .returned (.bool true) ∧ Below w.heap.size w w' := by
  have AW := Lib.hid fun W => awake_any W
  by_cases h1 : n0 = 0
  · have e1 : ((n0 : Int) == 0) = true := by simp [h1]
    clear h h1
    go_enter Try.func5, Try.ntmps5
    go_wp2_with fail
    refine (AW.out _).mono ?_
    rintro e W1 ⟨rfl, hb⟩
    have HB := Lib.hid ((Below.refl w.heap.size w).trans (hb.mono (Below.refl w.heap.size w).size))
    clear hb
    go_wp2_with fail
    refine (AW.out _).mono ?_
    rintro e W2 ⟨rfl, hb⟩
    have HB2 := Lib.hid (HB.out.trans (hb.mono HB.out.size))
    clear hb
    go_wp2
    go_ret
    exact ⟨rfl, HB2.out⟩
  · have e1 : ((n0 : Int) == 0) = false := by simp [h1]
    by_cases h2 : n1 = 0
    · have e2 : ((n1 : Int) == 0) = true := by simp [h2]
      clear h h1 h2
      go_enter Try.func5, Try.ntmps5
      go_wp2_with fail
      refine (AW.out _).mono ?_
      rintro e W1 ⟨rfl, hb⟩
      have HB := Lib.hid ((Below.refl w.heap.size w).trans (hb.mono (Below.refl w.heap.size w).size))
      clear hb
      go_wp2_with fail
      refine (AW.out _).mono ?_
      rintro e W2 ⟨rfl, hb⟩
      have HB2 := Lib.hid (HB.out.trans (hb.mono HB.out.size))
      clear hb
      go_wp2
      go_ret
      exact ⟨rfl, HB2.out⟩
    · have e2 : ((n1 : Int) == 0) = false := by simp [h2]
      by_cases h3 : 20 < n0
      · have e3 : (20 : Int) < (n0 : Int) := by omega
        clear h h1 h2 h3
        go_enter Try.func5, Try.ntmps5
        go_wp2_with fail
        refine (AW.out _).mono ?_
        rintro e W1 ⟨rfl, hb⟩
        have HB := Lib.hid ((Below.refl w.heap.size w).trans (hb.mono (Below.refl w.heap.size w).size))
        clear hb
        go_wp2_with fail
        refine (AW.out _).mono ?_
        rintro e W2 ⟨rfl, hb⟩
        have HB2 := Lib.hid (HB.out.trans (hb.mono HB.out.size))
        clear hb
        go_wp2
        go_ret
        exact ⟨rfl, HB2.out⟩
      · have e3 : ¬ (20 : Int) < (n0 : Int) := by omega
        have e4 : (20 : Int) < (n1 : Int) := by omega
        clear h h1 h2 h3
        go_enter Try.func5, Try.ntmps5
        go_wp2_with fail
        refine (AW.out _).mono ?_
        rintro e W1 ⟨rfl, hb⟩
        have HB := Lib.hid ((Below.refl w.heap.size w).trans (hb.mono (Below.refl w.heap.size w).size))
        clear hb
        go_wp2_with fail
        refine (AW.out _).mono ?_
        rintro e W2 ⟨rfl, hb⟩
        have HB2 := Lib.hid (HB.out.trans (hb.mono HB.out.size))
        clear hb
        go_wp2
        go_ret
        exact ⟨rfl, HB2.out⟩

set_option maxRecDepth 100000 in
set_option maxHeartbeats 16000000 in
theorem TransferComplete_walk (a0 : Option Addr) (len0 cap0 : Nat) (z0 : List Int) (a1 : Option Addr) (len1 cap1 : Nat) (z1 : List Int) (a2 a3 a4 a5 : Int) (w : World) (w0 : IsRow .u8 w a0 len0 cap0 z0) (w1 : IsRow .u8 w a1 len1 cap1 z1) (w2 : (Lit.int .u8 a2).wf = true) (w3 : (Lit.int .u8 a3).wf = true) (w4 : (Lit.int .u8 a4).wf = true) (w5 : (Lit.int .u8 a5).wf = true) :
    Calls Try.prog 5 #[.slice a0 len0 cap0, .slice a1 len1 cap1, .int .u8 a2, .int .u8 a3, .int .u8 a4, .int .u8 a5] w fun e w' => e = .returned (.bool true) ∧ Below w.heap.size w w' := by
  by_cases hbig : len0 = 0 ∨ len1 = 0 ∨ 20 < len0 ∨ 20 < len1
  · exact complete_big _ _ _ _ _ _ _ _ _ _ w hbig
  · obtain ⟨rb, hl0, hby0, hs0, _, _⟩ := w0.bytes
    obtain ⟨sb, hl1, hby1, hs1, _, _⟩ := w1.bytes
    obtain ⟨j0, hj0, hy0, hy1, hy2⟩ := info_i64
    have AW := Lib.hid fun W => awake_any W
    obtain ⟨d3, rfl, hd3⟩ := u8_nat w2
    obtain ⟨d4, rfl, hd4⟩ := u8_nat w3
    obtain ⟨d5, rfl, hd5⟩ := u8_nat w4
    obtain ⟨d6, rfl, hd6⟩ := u8_nat w5
    have hn0 : 0 < len0 := by omega
    have hn1 : 0 < len1 := by omega
    have hm0 : len0 ≤ 20 := by omega
    have hm1 : len1 ≤ 20 := by omega
    have e1 : ((len0 : Int) == 0) = false := by simp; omega
    have e2 : ((len1 : Int) == 0) = false := by simp; omega
    have e3 : ¬ (20 : Int) < (len0 : Int) := by omega
    have e4 : ¬ (20 : Int) < (len1 : Int) := by omega
    have HL0 := Lib.hid hl0
    have HL1 := Lib.hid hl1
    have H0 := Lib.hid hs0
    have H1 := Lib.hid hs1
    clear w0 w1 w2 w3 w4 w5 hbig hl0 hl1 hs0 hs1
    go_enter Try.func5, Try.ntmps5
    go_wp2_with fail
    refine (AW.out _).mono ?_
    rintro e W1 ⟨rfl, hb⟩
    have HB1 := Lib.hid hb
    have H01 := Lib.hid ((H0.out.below hb).more hb.size)
    have H11 := Lib.hid ((H1.out.below hb).more hb.size)
    clear hb H0 H1 AW
    go_wp2
    go_loopg [13, 15] len0 (fun g v13 v15 wr => ∃ k : Nat, k + g = len0 ∧ v15 = .int .i64 k ∧ Hid (IL W1 v13 (toI (rb.take k)) wr))
    case atStart => exact ⟨0, by omega, by go_num, IL.nil W1⟩
    case round =>
      obtain ⟨k, hg, rfl, HP⟩ := hrel
      by_cases hlt : k < len0
      · have hkz : (k : Int) < (len0 : Int) := by omega
        have hkr : k < rb.length := by have := HL0.out; omega
        have HE := Lib.hid (toI_take hkr)
        have hol : (toI (rb.take k)).length ≤ 20 := by unfold toI; simp; omega
        obtain ⟨b1, o1, rfl, hb1, hc1⟩ := bts_at H01.out hkr
        have f1 := (HP.out.blw.cell (p := ⟨b1, _, none⟩) hb1).trans hc1
        have hx8 := hby0 _ (List.getElem_mem hkr)
        generalize toI (rb.take k) = o at *
        generalize rb[k] = x at *
        clear hc1
        go_upto_region 7 with fail
        have hown := (HP.out.next ((Below.refl (wr).heap.size wr).alloc (Nat.le_refl _) (.cells #[.int .i64 (x : Int)] 2))).own
        have hnew := sees_new wr #[.int .i64 (x : Int)] 2
        go_wp2_with (at_builtin; go_loud (refine wpList_append_any _ rfl (.tmp 55) (.tmp 61) 31 rfl _ 2 j0 (.int .i64 0) 1 8 Try.underlying31 hj0 hy0 hy1 hy2 rfl (by decide) _ _ _ rfl hown ((wr).heap.size + 1) _ 1 1 (ints [(x : Int)]) rfl hnew rfl (ints_one _) (by unfold maxLen; have := hol; omega) (by have := hol; omega) (by have := HP.out.blw.size; simp; omega) ?_))
        intro v3 W3 ho2 hg2 _
        have HP3 := Lib.hid (HP.out.push (by first | rfl | simp) ho2 hg2)
        clear ho2 hg2 hown hnew
        go_wp2
        go_roundg (len0 - (k + 1))
        case measure => omega
        case rel => exact ⟨k + 1, by omega, by go_num, by show IL _ _ _ _; rw [HE.out]; exact HP3.out⟩
      · have hkz : ¬ (k : Int) < (len0 : Int) := by omega
        have hk2 : rb.take k = rb := List.take_of_length_le (by have := HL0.out; omega)
        rw [hk2] at HP
        have HRL : Hid ((toI rb).length = len0) := by show _ = _; unfold toI; rw [List.length_map]; exact HL0.out
        have HRN := Lib.hid (toI_ne hby0)
        generalize toI rb = r at *
        obtain ⟨Ar, cr, rfl⟩ := HP.out.sliceN HRL.out
        obtain ⟨W2, h⟩ : ∃ z, z = wr := ⟨_, rfl⟩
        subst h
        clear hk2 hlt hg hby0 HL0 H01
        go_wp2
        clear hkz
        go_loopg [14, 16] len1 (fun g v14 v16 wr => ∃ k : Nat, k + g = len1 ∧ v16 = .int .i64 k ∧ Hid (IL W2 v14 (toI (sb.take k)) wr))
        case atStart => exact ⟨0, by omega, by go_num, IL.nil W2⟩
        case round =>
          obtain ⟨k, hg, rfl, HS⟩ := hrel
          by_cases hlt : k < len1
          · have hkz : (k : Int) < (len1 : Int) := by omega
            have hkr : k < sb.length := by have := HL1.out; omega
            have HE := Lib.hid (toI_take hkr)
            have hol : (toI (sb.take k)).length ≤ 20 := by unfold toI; simp; omega
            obtain ⟨b1, o1, rfl, hb1, hc1⟩ := bts_at H11.out hkr
            have f1 := ((HP.out.blw.trans (HS.out.blw.mono HP.out.blw.size)).cell (p := ⟨b1, _, none⟩) hb1).trans hc1
            have hx8 := hby1 _ (List.getElem_mem hkr)
            generalize toI (sb.take k) = o at *
            generalize sb[k] = x at *
            clear hc1
            go_upto_region 11 with fail
            have hown := (HS.out.next ((Below.refl (wr).heap.size wr).alloc (Nat.le_refl _) (.cells #[.int .i64 (x : Int)] 2))).own
            have hnew := sees_new wr #[.int .i64 (x : Int)] 2
            go_wp2_with (at_builtin; go_loud (refine wpList_append_any _ rfl (.tmp 69) (.tmp 75) 31 rfl _ 2 j0 (.int .i64 0) 1 8 Try.underlying31 hj0 hy0 hy1 hy2 rfl (by decide) _ _ _ rfl hown ((wr).heap.size + 1) _ 1 1 (ints [(x : Int)]) rfl hnew rfl (ints_one _) (by unfold maxLen; have := hol; omega) (by have := hol; omega) (by have := HS.out.blw.size; simp; omega) ?_))
            intro v3 W3 ho2 hg2 _
            have HP3 := Lib.hid (HS.out.push (by first | rfl | simp) ho2 hg2)
            clear ho2 hg2 hown hnew
            go_wp2
            go_roundg (len1 - (k + 1))
            case measure => omega
            case rel => exact ⟨k + 1, by omega, by go_num, by show IL _ _ _ _; rw [HE.out]; exact HP3.out⟩
          · have hkz : ¬ (k : Int) < (len1 : Int) := by omega
            have hk2 : sb.take k = sb := List.take_of_length_le (by have := HL1.out; omega)
            rw [hk2] at HS
            have HSL : Hid ((toI sb).length = len1) := by show _ = _; unfold toI; rw [List.length_map]; exact HL1.out
            have HSN := Lib.hid (toI_ne hby1)
            generalize toI sb = s at *
            obtain ⟨As, cs, rfl⟩ := HS.out.sliceN HSL.out
            obtain ⟨V3, h⟩ : ∃ z, z = wr := ⟨_, rfl⟩
            subst h
            have HR3 := Lib.hid (HP.out.is.below HS.out.blw)
            have HS3 := Lib.hid HS.out.is
            have HB3 := Lib.hid (HB1.out.trans ((HP.out.blw.trans (HS.out.blw.mono HP.out.blw.size)).mono HB1.out.size))
            have C := Lib.hid (known_ls HR3.out HS3.out (by omega) (by omega))
            clear hk2 hlt hg hby1 HL1 H11 HP HS HB1
            go_wp2_with fail
            refine C.out.mono ?_
            rintro e W3 ⟨Ao, n, co, rfl, hP, hL⟩
            have HK : Hid (SK w Ao n co (knP r s) Ar len0 cr r As len1 cs s W3) := ⟨HB3.out.trans (hP.blw.mono HB3.out.size), hL, HR3.out.below hP.blw, HS3.out.below hP.blw⟩
            have hnn : n ≤ 500 := by
              have h1 := knU_len r s r.length
              have h2 : r.length * s.length ≤ 20 * 20 := Nat.mul_le_mul (by have := HRL.out; omega) (by have := HSL.out; omega)
              have h3 := hL.len
              unfold knP at h3
              omega
            clear hP hL C HR3 HS3 HB3
            have hxx : ∃ x : Nat, (d3 : Int) % (len0 : Int) = (x : Int) ∧ x < len0 := ⟨d3 % len0, (Int.natCast_emod _ _).symm, Nat.mod_lt _ hn0⟩
            have hyy : ∃ x : Nat, (d4 : Int) % (len0 : Int) = (x : Int) ∧ x < len0 := ⟨d4 % len0, (Int.natCast_emod _ _).symm, Nat.mod_lt _ hn0⟩
            have hpp : ∃ x : Nat, (d5 : Int) % (len1 : Int) = (x : Int) ∧ x < len1 := ⟨d5 % len1, (Int.natCast_emod _ _).symm, Nat.mod_lt _ hn1⟩
            have hqq : ∃ x : Nat, (d6 : Int) % (len1 : Int) = (x : Int) ∧ x < len1 := ⟨d6 % len1, (Int.natCast_emod _ _).symm, Nat.mod_lt _ hn1⟩
            obtain ⟨x, hx, hxl⟩ := hxx
            obtain ⟨y, hy, hyl⟩ := hyy
            obtain ⟨p, hp, hpl⟩ := hpp
            obtain ⟨q, hq, hql⟩ := hqq
            have hxz : (x : Int) < (len0 : Int) := by omega
            have hyz : (y : Int) < (len0 : Int) := by omega
            have hpz : (p : Int) < (len1 : Int) := by omega
            have hqz : (q : Int) < (len1 : Int) := by omega
            obtain ⟨ry, hry⟩ : ∃ z, z = r.getD y 0 := ⟨_, rfl⟩
            obtain ⟨sq, hsq⟩ : ∃ z, z = s.getD q 0 := ⟨_, rfl⟩
            have HRY := Lib.hid hry
            have HSQ := Lib.hid hsq
            clear hry hsq
            go_upto_region 17 with fail
            rw [hx, hy, hp, hq]
            clear hx hy hp hq hkz
            have hs9 := Lib.hid ((HK.out.r.see).alloc (Nat.le_refl _) (.cells #[] 2))
            go_wp2_with (at_builtin; go_loud (refine wpList_append_any _ rfl (.tmp 100) (.tmp 101) 31 rfl W3.heap.size 2 j0 (.int .i64 0) 1 8 Try.underlying31 hj0 hy0 hy1 hy2 rfl (by decide) _ _ _ rfl (own_empty W3 2 1) W3.heap.size _ _ _ (ints r) rfl hs9.out (by rw [ints_length, HRL.out, Nat.mul_one]) (ints_one _) (by unfold maxLen; omega) (by omega) (by simp) ?_))
            intro v4 W4 ho1 hg1 _
            have HC4 : Hid (IL W3 v4 r W4) := IL.clone (by have := HRL.out; omega) ho1 hg1
            clear ho1 hg1 hs9
            obtain ⟨Ac, cc, rfl⟩ := HC4.out.sliceN HRL.out
            have HK4 := Lib.hid (HK.out.below HC4.out.blw)
            go_upto_region 18 with fail
            obtain ⟨b1, o1, rfl, _, c1⟩ := HK4.out.r.at hyl
            rw [← HRY.out] at c1
            obtain ⟨gb, rfl⟩ := HC4.out.some_ (show 0 < len0 by omega)
            have q0 : (W4).frozen? ⟨gb, x, none⟩ = false := HC4.out.frozen
            obtain ⟨b7, o7, e7, _, q1⟩ := HC4.out.is.at (show x < len0 from hxl)
            injection e7 with e7
            injection e7 with e7 e8
            subst e7 e8
            rw [Nat.zero_add] at q1
            have HI := Lib.hid (HC4.out.put HRL.out (show x < len0 from hxl) (ry))
            go_upto_region 19 with fail
            clear q0 q1
            generalize (W4).setCell ⟨gb, x, none⟩ (.int .i64 (ry)) = W5 at *
            clear HC4
            have HK5 := Lib.hid (HK.out.below HI.out.blw)
            have HC5 := Lib.hid HI.out.is
            clear HK HK4 HI c1
            have hs9 := Lib.hid ((HK5.out.s.see).alloc (Nat.le_refl _) (.cells #[] 2))
            go_wp2_with (at_builtin; go_loud (refine wpList_append_any _ rfl (.tmp 110) (.tmp 111) 31 rfl W5.heap.size 2 j0 (.int .i64 0) 1 8 Try.underlying31 hj0 hy0 hy1 hy2 rfl (by decide) _ _ _ rfl (own_empty W5 2 1) W5.heap.size _ _ _ (ints s) rfl hs9.out (by rw [ints_length, HSL.out, Nat.mul_one]) (ints_one _) (by unfold maxLen; omega) (by omega) (by simp) ?_))
            intro v5 W6 ho1 hg1 _
            have HC6 : Hid (IL W5 v5 s W6) := IL.clone (by have := HSL.out; omega) ho1 hg1
            clear ho1 hg1 hs9
            obtain ⟨Am, cm, rfl⟩ := HC6.out.sliceN HSL.out
            have HK6 := Lib.hid (HK5.out.below HC6.out.blw)
            go_upto_region 20 with fail
            obtain ⟨b1, o1, rfl, _, c1⟩ := HK6.out.s.at hql
            rw [← HSQ.out] at c1
            obtain ⟨gb, rfl⟩ := HC6.out.some_ (show 0 < len1 by omega)
            have q0 : (W6).frozen? ⟨gb, p, none⟩ = false := HC6.out.frozen
            obtain ⟨b7, o7, e7, _, q1⟩ := HC6.out.is.at (show p < len1 from hpl)
            injection e7 with e7
            injection e7 with e7 e8
            subst e7 e8
            rw [Nat.zero_add] at q1
            have HI := Lib.hid (HC6.out.put HSL.out (show p < len1 from hpl) (sq))
            go_upto_region 21 with fail
            clear q0 q1
            generalize (W6).setCell ⟨gb, p, none⟩ (.int .i64 (sq)) = W7 at *
            clear HC6
            have HK7 := Lib.hid (HK5.out.below HI.out.blw)
            have HC7 := Lib.hid (HC5.out.below HI.out.blw)
            have HM7 := Lib.hid HI.out.is
            clear HK5 HK6 HI c1 HC5
            have hs9 := Lib.hid ((HK7.out.r.see).alloc (Nat.le_refl _) (.cells #[] 2))
            go_wp2_with (at_builtin; go_loud (refine wpList_append_any _ rfl (.tmp 120) (.tmp 121) 31 rfl W7.heap.size 2 j0 (.int .i64 0) 1 8 Try.underlying31 hj0 hy0 hy1 hy2 rfl (by decide) _ _ _ rfl (own_empty W7 2 1) W7.heap.size _ _ _ (ints r) rfl hs9.out (by rw [ints_length, HRL.out, Nat.mul_one]) (ints_one _) (by unfold maxLen; omega) (by omega) (by simp) ?_))
            intro v6 W8 ho1 hg1 _
            have HC8 : Hid (IL W7 v6 r W8) := IL.clone (by have := HRL.out; omega) ho1 hg1
            clear ho1 hg1 hs9
            obtain ⟨Ad, cd, rfl⟩ := HC8.out.sliceN HRL.out
            go_upto_region 22 with fail
            obtain ⟨gb, rfl⟩ := HC8.out.some_ (show 0 < len0 by omega)
            have q0 : (W8).frozen? ⟨gb, x, none⟩ = false := HC8.out.frozen
            obtain ⟨b7, o7, e7, _, q1⟩ := HC8.out.is.at (show x < len0 from hxl)
            injection e7 with e7
            injection e7 with e7 e8
            subst e7 e8
            rw [Nat.zero_add] at q1
            have HI := Lib.hid (HC8.out.put HRL.out (show x < len0 from hxl) (1000))
            go_upto_region 23 with fail
            clear q0 q1
            generalize (W8).setCell ⟨gb, x, none⟩ (.int .i64 (1000)) = W9 at *
            clear HC8
            have HK9 := Lib.hid (HK7.out.below HI.out.blw)
            have HC9 := Lib.hid (HC7.out.below HI.out.blw)
            have HM9 := Lib.hid (HM7.out.below HI.out.blw)
            have HD9 := Lib.hid HI.out.is
            clear HK7 HC7 HM7 HI
            have hs9 := Lib.hid ((HK9.out.s.see).alloc (Nat.le_refl _) (.cells #[] 2))
            go_wp2_with (at_builtin; go_loud (refine wpList_append_any _ rfl (.tmp 126) (.tmp 127) 31 rfl W9.heap.size 2 j0 (.int .i64 0) 1 8 Try.underlying31 hj0 hy0 hy1 hy2 rfl (by decide) _ _ _ rfl (own_empty W9 2 1) W9.heap.size _ _ _ (ints s) rfl hs9.out (by rw [ints_length, HSL.out, Nat.mul_one]) (ints_one _) (by unfold maxLen; omega) (by omega) (by simp) ?_))
            intro v7 W10 ho1 hg1 _
            have HC10 : Hid (IL W9 v7 s W10) := IL.clone (by have := HSL.out; omega) ho1 hg1
            clear ho1 hg1 hs9
            obtain ⟨At, ct, rfl⟩ := HC10.out.sliceN HSL.out
            go_upto_region 24 with fail
            obtain ⟨gb, rfl⟩ := HC10.out.some_ (show 0 < len1 by omega)
            have q0 : (W10).frozen? ⟨gb, p, none⟩ = false := HC10.out.frozen
            obtain ⟨b7, o7, e7, _, q1⟩ := HC10.out.is.at (show p < len1 from hpl)
            injection e7 with e7
            injection e7 with e7 e8
            subst e7 e8
            rw [Nat.zero_add] at q1
            have HI := Lib.hid (HC10.out.put HSL.out (show p < len1 from hpl) (1000))
            go_upto_region 25 with fail
            clear q0 q1
            generalize (W10).setCell ⟨gb, p, none⟩ (.int .i64 (1000)) = W11 at *
            clear HC10
            have HK11 : Hid (SK4 w Ao n co (knP r s) _ len0 cr r _ len1 cs s _ len0 _ (r.set x ry) _ len1 _ (s.set p sq) _ len0 _ (r.set x 1000) _ len1 _ (s.set p 1000) W11) := ⟨HK9.out.below HI.out.blw, HC9.out.below HI.out.blw, HM9.out.below HI.out.blw, HD9.out.below HI.out.blw, HI.out.is⟩
            clear HK9 HC9 HM9 HD9 HI
            have hxr : Hid (x < r.length) := by show _ < _; rw [HRL.out]; exact hxl
            have hyr : Hid (y < r.length) := by show _ < _; rw [HRL.out]; exact hyl
            have hps : Hid (p < s.length) := by show _ < _; rw [HSL.out]; exact hpl
            have hqs : Hid (q < s.length) := by show _ < _; rw [HSL.out]; exact hql
            have M1 : Hid (cpP (knP r s) x y = knP (r.set x ry) s) := by show _ = _; rw [HRY.out]; exact cp_full hxr.out hyr.out
            have M2 : Hid (mvP (knP r s) p q = knP r (s.set p sq)) := by show _ = _; rw [HSQ.out]; exact mv_full hps.out hqs.out
            have M3 : Hid (dfP (knP r s) x p = knP (r.set x 1000) (s.set p 1000)) := df_full HRN.out HSN.out hxr.out hps.out
            have HKS := Lib.hid (knP_srt r s)
            generalize r.set x ry = r2 at *
            generalize s.set p sq = s2 at *
            generalize r.set x 1000 = r3 at *
            generalize s.set p 1000 = s3 at *
            generalize knP r s = kn at *
            have C := Lib.hid (copy_ls (x : Int) (y : Int) HK11.out.k.l HKS.out (by omega))
            rw [M1.out] at C
            go_wp2_with fail
            refine C.out.mono ?_
            rintro e W12 ⟨A1, n1, c1, rfl, hP, hL⟩
            have HK1 := Lib.hid (HK11.out.below hP.blw)
            have HL1 := Lib.hid hL
            clear hP hL C HK11
            have C := Lib.hid (known_ls HK1.out.c HK1.out.k.s (by omega) (by omega))
            go_wp2_with fail
            refine C.out.mono ?_
            rintro e W13 ⟨A2, n2, c2, rfl, hP, hL⟩
            have HK2 := Lib.hid (HK1.out.below hP.blw)
            have D := Lib.hid (same_lsB (HL1.out.below hP.blw) hL)
            rw [decide_eq_true rfl] at D
            clear hP hL C HK1 HL1
            go_wp2_with fail
            refine D.out.mono ?_
            rintro e W14 ⟨rfl, hb⟩
            have HK12 := Lib.hid (HK2.out.below hb)
            clear hb D HK2
            have C := Lib.hid (move_ls (p : Int) (q : Int) HK12.out.k.l HKS.out (by omega))
            rw [M2.out] at C
            go_wp2_with fail
            refine C.out.mono ?_
            rintro e W15 ⟨A1, n1, c1, rfl, hP, hL⟩
            have HK1 := Lib.hid (HK12.out.below hP.blw)
            have HL1 := Lib.hid hL
            clear hP hL C HK12
            have C := Lib.hid (known_ls HK1.out.k.r HK1.out.m (by omega) (by omega))
            go_wp2_with fail
            refine C.out.mono ?_
            rintro e W16 ⟨A2, n2, c2, rfl, hP, hL⟩
            have HK2 := Lib.hid (HK1.out.below hP.blw)
            have D := Lib.hid (same_lsB (HL1.out.below hP.blw) hL)
            rw [decide_eq_true rfl] at D
            clear hP hL C HK1 HL1
            go_wp2_with fail
            refine D.out.mono ?_
            rintro e W17 ⟨rfl, hb⟩
            have HK13 := Lib.hid (HK2.out.below hb)
            clear hb D HK2
            have C := Lib.hid (define_ls (x : Int) (p : Int) HK13.out.k.l HKS.out (by omega))
            rw [M3.out] at C
            go_wp2_with fail
            refine C.out.mono ?_
            rintro e W18 ⟨A1, n1, c1, rfl, hP, hL⟩
            have HK1 := Lib.hid (HK13.out.below hP.blw)
            have HL1 := Lib.hid hL
            clear hP hL C HK13
            have C := Lib.hid (known_ls HK1.out.d HK1.out.t (by omega) (by omega))
            go_wp2_with fail
            refine C.out.mono ?_
            rintro e W19 ⟨A2, n2, c2, rfl, hP, hL⟩
            have HK2 := Lib.hid (HK1.out.below hP.blw)
            have D := Lib.hid (same_lsB (HL1.out.below hP.blw) hL)
            rw [decide_eq_true rfl] at D
            clear hP hL C HK1 HL1
            go_wp2_with fail
            refine D.out.mono ?_
            rintro e W20 ⟨rfl, hb⟩
            have HK14 := Lib.hid (HK2.out.below hb)
            clear hb D HK2
            go_wp2
            go_ret
            exact ⟨rfl, HK14.out.k.blw⟩

end Go.Proofs.Ytcnkkpnfijihbaa
