/-
  The walk of the statement on soundness.
-/
import Derived.Test.YtcnkkpnfijihbaaTrLawM
import Derived.Test.YtcnkkpnfijihbaaTrKnown
import Derived.Test.YtcnkkpnfijihbaaIL
namespace Go.Proofs.Ytcnkkpnfijihbaa
open Go.RowKit
set_option linter.unusedVariables false

theorem known_ls {w : World} {A A' : Option Addr} {n c n' c' : Nat} {r s : List Int} (h : IS w A n c r) (k : IS w A' n' c' s) (hn : n ≤ 30) (hn' : n' ≤ 30) : Calls Try.prog 17 #[.slice A n c, .slice A' n' c'] w (PV w (knP r s)) := by
  obtain ⟨rfl, _, _, h4⟩ := id h
  obtain ⟨rfl, _, _, k4⟩ := id k
  refine (known_any w.heap.size A A' r s c c' w h4 k4 (Nat.le_refl _) hn hn').mono fun _ _ => PV.of ?_
  have h1 := knU_len r s r.length
  have h2 : r.length * s.length ≤ 30 * 30 := Nat.mul_le_mul hn hn'
  unfold knP
  omega
theorem holds_ls {w : World} {A0 A A' : Option Addr} {n0 c0 n c n' c' : Nat} {l : List Pr} {r s : List Int} (h0 : LS w A0 n0 c0 l) (h : IS w A n c r) (k : IS w A' n' c' s) (hn : n ≤ 30) (hn' : n' ≤ 30) (hh : ∀ q ∈ l, HoldP r s q) : Calls Try.prog 18 #[.slice A0 n0 c0, .slice A n c, .slice A' n' c'] w fun e w' => e = .returned (.bool true) ∧ Below w.heap.size w w' := by
  obtain ⟨rfl, _, _, g4, _⟩ := id h0
  obtain ⟨rfl, _, _, h4⟩ := id h
  obtain ⟨rfl, _, _, k4⟩ := id k
  exact (holds_any w.heap.size A0 A A' l r s c0 c c' w g4 h4 k4 h0.big (by omega) (by omega) hh).mono fun _ _ ⟨a, b⟩ => ⟨a, b.below⟩

/-- What the walk carries: the pairs and the values. -/
structure SK (w : World) (A : Option Addr) (n c : Nat) (l : List Pr) (A0 : Option Addr) (n0 c0 : Nat) (r : List Int) (A1 : Option Addr) (n1 c1 : Nat) (s : List Int) (W : World) : Prop where
  blw : Below w.heap.size w W
  l : LS W A n c l
  r : IS W A0 n0 c0 r
  s : IS W A1 n1 c1 s
theorem SK.below {w : World} {A : Option Addr} {n c : Nat} {l : List Pr} {A0 : Option Addr} {n0 c0 : Nat} {r : List Int} {A1 : Option Addr} {n1 c1 : Nat} {s : List Int} {W W' : World} (h : SK w A n c l A0 n0 c0 r A1 n1 c1 s W) (hb : Below W.heap.size W W') : SK w A n c l A0 n0 c0 r A1 n1 c1 s W' :=
  ⟨h.blw.trans (hb.mono h.blw.size), h.l.below hb, h.r.below hb, h.s.below hb⟩

/-- And the values after a copy, a move, a definition. -/
structure SK4 (w : World) (A : Option Addr) (n c : Nat) (l : List Pr) (A0 : Option Addr) (n0 c0 : Nat) (r : List Int) (A1 : Option Addr) (n1 c1 : Nat) (s : List Int) (A2 : Option Addr) (n2 c2 : Nat) (r2 : List Int) (A3 : Option Addr) (n3 c3 : Nat) (s2 : List Int) (A4 : Option Addr) (n4 c4 : Nat) (r3 : List Int) (A5 : Option Addr) (n5 c5 : Nat) (s3 : List Int) (W : World) : Prop where
  k : SK w A n c l A0 n0 c0 r A1 n1 c1 s W
  c : IS W A2 n2 c2 r2
  m : IS W A3 n3 c3 s2
  d : IS W A4 n4 c4 r3
  t : IS W A5 n5 c5 s3
theorem SK4.below {w : World} {A : Option Addr} {n c : Nat} {l : List Pr} {A0 : Option Addr} {n0 c0 : Nat} {r : List Int} {A1 : Option Addr} {n1 c1 : Nat} {s : List Int} {A2 : Option Addr} {n2 c2 : Nat} {r2 : List Int} {A3 : Option Addr} {n3 c3 : Nat} {s2 : List Int} {A4 : Option Addr} {n4 c4 : Nat} {r3 : List Int} {A5 : Option Addr} {n5 c5 : Nat} {s3 : List Int} {W W' : World} (h : SK4 w A n c l A0 n0 c0 r A1 n1 c1 s A2 n2 c2 r2 A3 n3 c3 s2 A4 n4 c4 r3 A5 n5 c5 s3 W) (hb : Below W.heap.size W W') : SK4 w A n c l A0 n0 c0 r A1 n1 c1 s A2 n2 c2 r2 A3 n3 c3 s2 A4 n4 c4 r3 A5 n5 c5 s3 W' :=
  ⟨h.k.below hb, h.c.below hb, h.m.below hb, h.d.below hb, h.t.below hb⟩

set_option maxRecDepth 100000 in
set_option maxHeartbeats 8000000 in
theorem sound_big (n0 n1 : Nat) (A0 A1 : Option Addr) (c0 c1 : Nat) (A2 : Option Addr) (n2 c2 : Nat) (a3 a4 a5 a6 a7 : Int) (w : World) (h : n0 = 0 ∨ n1 = 0 ∨ 20 < n0 ∨ 20 < n1) :
    Calls Try.prog 4 #[.slice A0 n0 c0, .slice A1 n1 c1, .slice A2 n2 c2, .int .u8 a3, .int .u8 a4, .int .u8 a5, .int .u8 a6, .int .i64 a7] w fun e w' => e = .returned (.bool true) ∧ Below w.heap.size w w' := by
  have AW := Lib.hid fun W => awake_any W
  by_cases h1 : n0 = 0
  · have e1 : ((n0 : Int) == 0) = true := by simp [h1]
    clear h h1
    go_enter Try.func4, Try.ntmps4
    go_wp2_with fail
    refine (AW.out _).mono ?_
    rintro e W1 ⟨rfl, hb⟩
    have HB := Lib.hid ((Below.refl w.heap.size w).trans (hb.mono (Below.refl w.heap.size w).size))
    clear hb
    go_wp2_with fail
    refine (AW.out _).mono ?_
    rintro e W2 ⟨rfl, hb⟩
    have HB2 := Lib.hid (HB.out.trans (hb.mono HB.out.size))
    clear hb
    go_wp2
    go_ret
    exact ⟨rfl, HB2.out⟩
  · have e1 : ((n0 : Int) == 0) = false := by simp [h1]
    by_cases h2 : n1 = 0
    · have e2 : ((n1 : Int) == 0) = true := by simp [h2]
      clear h h1 h2
      go_enter Try.func4, Try.ntmps4
      go_wp2_with fail
      refine (AW.out _).mono ?_
      rintro e W1 ⟨rfl, hb⟩
      have HB := Lib.hid ((Below.refl w.heap.size w).trans (hb.mono (Below.refl w.heap.size w).size))
      clear hb
      go_wp2_with fail
      refine (AW.out _).mono ?_
      rintro e W2 ⟨rfl, hb⟩
      have HB2 := Lib.hid (HB.out.trans (hb.mono HB.out.size))
      clear hb
      go_wp2
      go_ret
      exact ⟨rfl, HB2.out⟩
    · have e2 : ((n1 : Int) == 0) = false := by simp [h2]
      by_cases h3 : 20 < n0
      · have e3 : (20 : Int) < (n0 : Int) := by omega
        clear h h1 h2 h3
        go_enter Try.func4, Try.ntmps4
        go_wp2_with fail
        refine (AW.out _).mono ?_
        rintro e W1 ⟨rfl, hb⟩
        have HB := Lib.hid ((Below.refl w.heap.size w).trans (hb.mono (Below.refl w.heap.size w).size))
        clear hb
        go_wp2_with fail
        refine (AW.out _).mono ?_
        rintro e W2 ⟨rfl, hb⟩
        have HB2 := Lib.hid (HB.out.trans (hb.mono HB.out.size))
        clear hb
        go_wp2
        go_ret
        exact ⟨rfl, HB2.out⟩
      · have e3 : ¬ (20 : Int) < (n0 : Int) := by omega
        have e4 : (20 : Int) < (n1 : Int) := by omega
        clear h h1 h2 h3
        go_enter Try.func4, Try.ntmps4
        go_wp2_with fail
        refine (AW.out _).mono ?_
        rintro e W1 ⟨rfl, hb⟩
        have HB := Lib.hid ((Below.refl w.heap.size w).trans (hb.mono (Below.refl w.heap.size w).size))
        clear hb
        go_wp2_with fail
        refine (AW.out _).mono ?_
        rintro e W2 ⟨rfl, hb⟩
        have HB2 := Lib.hid (HB.out.trans (hb.mono HB.out.size))
        clear hb
        go_wp2
        go_ret
        exact ⟨rfl, HB2.out⟩

set_option maxRecDepth 100000 in
set_option maxHeartbeats 16000000 in
theorem TransferSound_walk (a0 : Option Addr) (len0 cap0 : Nat) (z0 : List Int) (a1 : Option Addr) (len1 cap1 : Nat) (z1 : List Int) (a2 : Option Addr) (len2 cap2 : Nat) (a3 a4 a5 a6 a7 : Int) (w : World) (w0 : IsRow .i64 w a0 len0 cap0 z0) (w1 : IsRow .i64 w a1 len1 cap1 z1) (w2 : IsBools w a2 len2 cap2) (w3 : (Lit.int .u8 a3).wf = true) (w4 : (Lit.int .u8 a4).wf = true) (w5 : (Lit.int .u8 a5).wf = true) (w6 : (Lit.int .u8 a6).wf = true) (w7 : (Lit.int .i64 a7).wf = true) :
    Calls Try.prog 4 #[.slice a0 len0 cap0, .slice a1 len1 cap1, .slice a2 len2 cap2, .int .u8 a3, .int .u8 a4, .int .u8 a5, .int .u8 a6, .int .i64 a7] w fun e w' => e = .returned (.bool true) ∧ Below w.heap.size w w' := by
  by_cases hbig : len0 = 0 ∨ len1 = 0 ∨ 20 < len0 ∨ 20 < len1
  · exact sound_big _ _ _ _ _ _ _ _ _ _ _ _ _ _ w hbig
  · obtain ⟨r, _, h0⟩ := w0.is
    obtain ⟨s, _, h1⟩ := w1.is
    obtain ⟨i0, hi0, hz0, hz1, hz2⟩ := info_pr
    obtain ⟨j0, hj0, hy0, hy1, hy2⟩ := info_i64
    have AW := Lib.hid fun W => awake_any W
    obtain ⟨d3, rfl, hd3⟩ := u8_nat w3
    obtain ⟨d4, rfl, hd4⟩ := u8_nat w4
    obtain ⟨d5, rfl, hd5⟩ := u8_nat w5
    obtain ⟨d6, rfl, hd6⟩ := u8_nat w6
    have hn0 : 0 < len0 := by omega
    have hn1 : 0 < len1 := by omega
    have hm0 : len0 ≤ 20 := by omega
    have hm1 : len1 ≤ 20 := by omega
    have e1 : ((len0 : Int) == 0) = false := by simp; omega
    have e2 : ((len1 : Int) == 0) = false := by simp; omega
    have e3 : ¬ (20 : Int) < (len0 : Int) := by omega
    have e4 : ¬ (20 : Int) < (len1 : Int) := by omega
    have H0 := Lib.hid h0
    have H1 := Lib.hid h1
    have HD := Lib.hid w2
    clear w0 w1 w2 w3 w4 w5 w6 w7 h0 h1 hbig
    go_enter Try.func4, Try.ntmps4
    go_wp2_with fail
    refine (AW.out _).mono ?_
    rintro e W1 ⟨rfl, hb⟩
    have HB1 := Lib.hid hb
    have H01 := Lib.hid (H0.out.below hb)
    have H11 := Lib.hid (H1.out.below hb)
    clear hb H0 H1 AW
    have C := Lib.hid (known_ls H01.out H11.out (by omega) (by omega))
    go_wp2_with fail
    refine C.out.mono ?_
    rintro e W2 ⟨Ax, n, c, rfl, hP, hL⟩
    have HX := Lib.hid hL
    have H02 := Lib.hid (H01.out.below hP.blw)
    have H12 := Lib.hid (H11.out.below hP.blw)
    have HB2 := Lib.hid (HB1.out.trans (hP.blw.mono HB1.out.size))
    have hn : n ≤ 1000 := hL.sm
    have HKS := Lib.hid (knP_srt r s)
    have HKM : Hid (∀ q ∈ knP r s, HoldP r s q) := fun q h => mem_knP.1 h
    have hal4 : (knP r s).length ≤ 400 := by
      have h1 := knU_len r s r.length
      have h2 : r.length * s.length ≤ 20 * 20 := Nat.mul_le_mul (by have := H01.out.len; omega) (by have := H11.out.len; omega)
      unfold knP
      omega
    clear hP hL C H01 H11 HB1
    generalize knP r s = all at *
    go_wp2
    go_loopg [18, 19] n (fun g v18 v19 wr => ∃ (k : Nat) (o : List Pr), k + g = n ∧ v19 = .int .i64 k ∧ Hid (o.Sublist (all.take k)) ∧ Hid (PL W2 v18 o wr))
    case atStart => exact ⟨0, [], by omega, by go_num, List.nil_sublist _, PL.nil W2⟩
    case round =>
      obtain ⟨k, o, hg, rfl, HO, HP⟩ := hrel
      by_cases hlt : k < n
      · have hkz : (k : Int) < (n : Int) := by omega
        have hal : k < all.length := by have := HX.out.len; omega
        have hol : o.length ≤ 1000 := by have := HO.out.length_le; simp at this; omega
        have HO0 : Hid (o.Sublist (all.take (k + 1))) := by
          show List.Sublist _ _
          rw [List.take_succ_eq_append_getElem hal]
          exact HO.out.trans (List.sublist_append_left _ _)
        have HO1 : Hid ((o ++ [all[k]]).Sublist (all.take (k + 1))) := by
          show List.Sublist _ _
          rw [List.take_succ_eq_append_getElem hal]
          exact HO.out.append (List.Sublist.refl _)
        obtain ⟨b1, o1, rfl, hb1, hc0, hc1⟩ := sees_pair HX.out.see hal
        have f0 := (HP.out.blw.cell (p := ⟨b1, _, none⟩) (by show b1 < _; omega)).trans hc0
        have f1 := (HP.out.blw.cell (p := ⟨b1, _, none⟩) (by show b1 < _; omega)).trans hc1
        generalize all[k] = x at *
        obtain ⟨x1, x2⟩ := x
        dsimp only at f0 f1
        clear hc0 hc1 HO
        by_cases hdl : k < len2
        · have hdz : (k : Int) < (len2 : Int) := by omega
          have hdd : decide ((len2 : Int) ≤ (k : Int)) = false := by simp; omega
          obtain ⟨z, b2, o2, rfl, hb2, hc2⟩ := HD.out.2.2 k hdl
          have f2 := ((HB2.out.trans (HP.out.blw.mono HB2.out.size)).cell (p := ⟨b2, _, none⟩) hb2).trans hc2
          clear hc2
          cases z
          · go_upto_region 9 with fail
            have hown := (HP.out.alloc (prObj x1 x2)).own
            have hnew := new_sees wr x1 x2
            go_wp2_with (at_builtin; refine wpList_append_any _ rfl (.tmp 71) (.tmp 76) 22 rfl _ 35 i0 (.agg #[.int .i64 0, .int .i64 0]) 2 16 Try.underlying22 hi0 hz0 hz1 hz2 rfl (by decide) _ _ _ rfl hown (wr.heap.size + 1) _ 1 1 _ rfl hnew rfl (prs_one _) ?c1 ?c2 ?c3 ?_)
            case c1 => have := hol; unfold maxLen; omega
            case c2 => have := hol; omega
            case c3 => have := HP.out.blw.size; simp; omega
            intro v3 W3 ho2 hg2 hb2
            have HP3 := Lib.hid (HP.out.push x1 x2 (by first | rfl | simp) ho2 hg2)
            clear ho2 hg2 hb2 hown hnew
            go_wp2
            go_roundg (n - (k + 1))
            case measure => omega
            case rel => exact ⟨k + 1, _, by omega, by go_num, HO1.out, HP3.out⟩
          · go_wp2
            go_roundg (n - (k + 1))
            case measure => omega
            case rel => exact ⟨k + 1, _, by omega, by go_num, HO0.out, HP.out⟩
        · have hdz : ¬ (k : Int) < (len2 : Int) := by omega
          have hdw : (len2 : Int) ≤ (k : Int) := by omega
          have hdd : decide ((len2 : Int) ≤ (k : Int)) = true := by simp; omega
          go_upto_region 9 with fail
          have hown := (HP.out.alloc (prObj x1 x2)).own
          have hnew := new_sees wr x1 x2
          go_wp2_with (at_builtin; refine wpList_append_any _ rfl (.tmp 71) (.tmp 76) 22 rfl _ 35 i0 (.agg #[.int .i64 0, .int .i64 0]) 2 16 Try.underlying22 hi0 hz0 hz1 hz2 rfl (by decide) _ _ _ rfl hown (wr.heap.size + 1) _ 1 1 _ rfl hnew rfl (prs_one _) ?c1 ?c2 ?c3 ?_)
          case c1 => have := hol; unfold maxLen; omega
          case c2 => have := hol; omega
          case c3 => have := HP.out.blw.size; simp; omega
          intro v3 W3 ho2 hg2 hb2
          have HP3 := Lib.hid (HP.out.push x1 x2 (by first | rfl | simp) ho2 hg2)
          clear ho2 hg2 hb2 hown hnew
          go_wp2
          go_roundg (n - (k + 1))
          case measure => omega
          case rel => exact ⟨k + 1, _, by omega, by go_num, HO1.out, HP3.out⟩
      · have hkz : ¬ (k : Int) < (n : Int) := by omega
        have hol : o.length ≤ 500 := by
          have h1 := HO.out.length_le
          have h2 := (List.take_sublist k all).length_le
          omega
        have hxx : ∃ x : Nat, (d3 : Int) % (len0 : Int) = (x : Int) ∧ x < len0 := ⟨d3 % len0, (Int.natCast_emod _ _).symm, Nat.mod_lt _ hn0⟩
        have hyy : ∃ x : Nat, (d4 : Int) % (len0 : Int) = (x : Int) ∧ x < len0 := ⟨d4 % len0, (Int.natCast_emod _ _).symm, Nat.mod_lt _ hn0⟩
        have hpp : ∃ x : Nat, (d5 : Int) % (len1 : Int) = (x : Int) ∧ x < len1 := ⟨d5 % len1, (Int.natCast_emod _ _).symm, Nat.mod_lt _ hn1⟩
        have hqq : ∃ x : Nat, (d6 : Int) % (len1 : Int) = (x : Int) ∧ x < len1 := ⟨d6 % len1, (Int.natCast_emod _ _).symm, Nat.mod_lt _ hn1⟩
        obtain ⟨x, hx, hxl⟩ := hxx
        obtain ⟨y, hy, hyl⟩ := hyy
        obtain ⟨p, hp, hpl⟩ := hpp
        obtain ⟨q, hq, hql⟩ := hqq
        have hxz : (x : Int) < (len0 : Int) := by omega
        have hyz : (y : Int) < (len0 : Int) := by omega
        have hpz : (p : Int) < (len1 : Int) := by omega
        have hqz : (q : Int) < (len1 : Int) := by omega
        obtain ⟨Ao, co, rfl, _, _⟩ := HP.out.slice
        have HOS : Hid (Srt o) := List.Pairwise.sublist (HO.out.trans (List.take_sublist _ _)) HKS.out
        have HOM : Hid (∀ q ∈ o, HoldP r s q) := fun q h => HKM.out q (List.mem_of_mem_take (HO.out.subset h))
        have HK : Hid (SK w Ao o.length co o a0 len0 cap0 r a1 len1 cap1 s wr) := ⟨HB2.out.trans (HP.out.blw.mono HB2.out.size), HP.out.ls (by omega), H02.out.below HP.out.blw, H12.out.below HP.out.blw⟩
        have HR := Lib.hid H02.out.len
        have HS := Lib.hid H12.out.len
        obtain ⟨ry, hry⟩ : ∃ z, z = r.getD y 0 := ⟨_, rfl⟩
        obtain ⟨sq, hsq⟩ : ∃ z, z = s.getD q 0 := ⟨_, rfl⟩
        have HRY := Lib.hid hry
        have HSQ := Lib.hid hsq
        clear hry hsq
        obtain ⟨W3, h⟩ : ∃ z, z = wr := ⟨_, rfl⟩
        subst h
        obtain ⟨m, hm⟩ : ∃ z, z = o.length := ⟨_, rfl⟩
        rw [← hm] at HK hol ⊢
        clear hm HO HP HX HB2 H02 H12 HKS HKM hal4 hlt hg
        go_upto_region 14 with fail
        rw [hx, hy, hp, hq]
        clear hx hy hp hq hkz
        have hs9 := Lib.hid ((HK.out.r.see).alloc (Nat.le_refl _) (.cells #[] 2))
        go_wp2_with (at_builtin; go_loud (refine wpList_append_any _ rfl (.tmp 98) (.tmp 99) 31 rfl W3.heap.size 2 j0 (.int .i64 0) 1 8 Try.underlying31 hj0 hy0 hy1 hy2 rfl (by decide) _ _ _ rfl (own_empty W3 2 1) W3.heap.size _ _ _ (ints r) rfl hs9.out (by rw [ints_length, HR.out, Nat.mul_one]) (ints_one _) (by unfold maxLen; omega) (by omega) (by simp) ?_))
        intro v4 W4 ho1 hg1 _
        have HC4 : Hid (IL W3 v4 r W4) := IL.clone (by have := HR.out; omega) ho1 hg1
        clear ho1 hg1 hs9
        obtain ⟨Ac, cc, rfl⟩ := HC4.out.sliceN HR.out
        have HK4 := Lib.hid (HK.out.below HC4.out.blw)
        go_upto_region 15 with fail
        obtain ⟨b1, o1, rfl, _, c1⟩ := HK4.out.r.at hyl
        rw [← HRY.out] at c1
        obtain ⟨gb, rfl⟩ := HC4.out.some_ (show 0 < len0 by omega)
        have q0 : (W4).frozen? ⟨gb, x, none⟩ = false := HC4.out.frozen
        obtain ⟨b7, o7, e7, _, q1⟩ := HC4.out.is.at (show x < len0 from hxl)
        injection e7 with e7
        injection e7 with e7 e8
        subst e7 e8
        rw [Nat.zero_add] at q1
        have HI := Lib.hid (HC4.out.put HR.out (show x < len0 from hxl) (ry))
        go_upto_region 16 with fail
        clear q0 q1
        generalize (W4).setCell ⟨gb, x, none⟩ (.int .i64 (ry)) = W5 at *
        clear HC4
        have HK5 := Lib.hid (HK.out.below HI.out.blw)
        have HC5 := Lib.hid HI.out.is
        clear HK HK4 HI c1
        have hs9 := Lib.hid ((HK5.out.s.see).alloc (Nat.le_refl _) (.cells #[] 2))
        go_wp2_with (at_builtin; go_loud (refine wpList_append_any _ rfl (.tmp 108) (.tmp 109) 31 rfl W5.heap.size 2 j0 (.int .i64 0) 1 8 Try.underlying31 hj0 hy0 hy1 hy2 rfl (by decide) _ _ _ rfl (own_empty W5 2 1) W5.heap.size _ _ _ (ints s) rfl hs9.out (by rw [ints_length, HS.out, Nat.mul_one]) (ints_one _) (by unfold maxLen; omega) (by omega) (by simp) ?_))
        intro v5 W6 ho1 hg1 _
        have HC6 : Hid (IL W5 v5 s W6) := IL.clone (by have := HS.out; omega) ho1 hg1
        clear ho1 hg1 hs9
        obtain ⟨Am, cm, rfl⟩ := HC6.out.sliceN HS.out
        have HK6 := Lib.hid (HK5.out.below HC6.out.blw)
        go_upto_region 17 with fail
        obtain ⟨b1, o1, rfl, _, c1⟩ := HK6.out.s.at hql
        rw [← HSQ.out] at c1
        obtain ⟨gb, rfl⟩ := HC6.out.some_ (show 0 < len1 by omega)
        have q0 : (W6).frozen? ⟨gb, p, none⟩ = false := HC6.out.frozen
        obtain ⟨b7, o7, e7, _, q1⟩ := HC6.out.is.at (show p < len1 from hpl)
        injection e7 with e7
        injection e7 with e7 e8
        subst e7 e8
        rw [Nat.zero_add] at q1
        have HI := Lib.hid (HC6.out.put HS.out (show p < len1 from hpl) (sq))
        go_upto_region 18 with fail
        clear q0 q1
        generalize (W6).setCell ⟨gb, p, none⟩ (.int .i64 (sq)) = W7 at *
        clear HC6
        have HK7 := Lib.hid (HK5.out.below HI.out.blw)
        have HC7 := Lib.hid (HC5.out.below HI.out.blw)
        have HM7 := Lib.hid HI.out.is
        clear HK5 HK6 HI c1 HC5
        have hs9 := Lib.hid ((HK7.out.r.see).alloc (Nat.le_refl _) (.cells #[] 2))
        go_wp2_with (at_builtin; go_loud (refine wpList_append_any _ rfl (.tmp 118) (.tmp 119) 31 rfl W7.heap.size 2 j0 (.int .i64 0) 1 8 Try.underlying31 hj0 hy0 hy1 hy2 rfl (by decide) _ _ _ rfl (own_empty W7 2 1) W7.heap.size _ _ _ (ints r) rfl hs9.out (by rw [ints_length, HR.out, Nat.mul_one]) (ints_one _) (by unfold maxLen; omega) (by omega) (by simp) ?_))
        intro v6 W8 ho1 hg1 _
        have HC8 : Hid (IL W7 v6 r W8) := IL.clone (by have := HR.out; omega) ho1 hg1
        clear ho1 hg1 hs9
        obtain ⟨Ad, cd, rfl⟩ := HC8.out.sliceN HR.out
        go_upto_region 19 with fail
        obtain ⟨gb, rfl⟩ := HC8.out.some_ (show 0 < len0 by omega)
        have q0 : (W8).frozen? ⟨gb, x, none⟩ = false := HC8.out.frozen
        obtain ⟨b7, o7, e7, _, q1⟩ := HC8.out.is.at (show x < len0 from hxl)
        injection e7 with e7
        injection e7 with e7 e8
        subst e7 e8
        rw [Nat.zero_add] at q1
        have HI := Lib.hid (HC8.out.put HR.out (show x < len0 from hxl) (a7))
        go_upto_region 20 with fail
        clear q0 q1
        generalize (W8).setCell ⟨gb, x, none⟩ (.int .i64 (a7)) = W9 at *
        clear HC8
        have HK9 := Lib.hid (HK7.out.below HI.out.blw)
        have HC9 := Lib.hid (HC7.out.below HI.out.blw)
        have HM9 := Lib.hid (HM7.out.below HI.out.blw)
        have HD9 := Lib.hid HI.out.is
        clear HK7 HC7 HM7 HI
        have hs9 := Lib.hid ((HK9.out.s.see).alloc (Nat.le_refl _) (.cells #[] 2))
        go_wp2_with (at_builtin; go_loud (refine wpList_append_any _ rfl (.tmp 125) (.tmp 126) 31 rfl W9.heap.size 2 j0 (.int .i64 0) 1 8 Try.underlying31 hj0 hy0 hy1 hy2 rfl (by decide) _ _ _ rfl (own_empty W9 2 1) W9.heap.size _ _ _ (ints s) rfl hs9.out (by rw [ints_length, HS.out, Nat.mul_one]) (ints_one _) (by unfold maxLen; omega) (by omega) (by simp) ?_))
        intro v7 W10 ho1 hg1 _
        have HC10 : Hid (IL W9 v7 s W10) := IL.clone (by have := HS.out; omega) ho1 hg1
        clear ho1 hg1 hs9
        obtain ⟨At, ct, rfl⟩ := HC10.out.sliceN HS.out
        go_upto_region 21 with fail
        obtain ⟨gb, rfl⟩ := HC10.out.some_ (show 0 < len1 by omega)
        have q0 : (W10).frozen? ⟨gb, p, none⟩ = false := HC10.out.frozen
        obtain ⟨b7, o7, e7, _, q1⟩ := HC10.out.is.at (show p < len1 from hpl)
        injection e7 with e7
        injection e7 with e7 e8
        subst e7 e8
        rw [Nat.zero_add] at q1
        have HI := Lib.hid (HC10.out.put HS.out (show p < len1 from hpl) (a7))
        go_upto_region 22 with fail
        clear q0 q1
        generalize (W10).setCell ⟨gb, p, none⟩ (.int .i64 (a7)) = W11 at *
        clear HC10
        have HK11 : Hid (SK4 w Ao m co o _ len0 cap0 r _ len1 cap1 s _ len0 _ (r.set x (ry)) _ len1 _ (s.set p (sq)) _ len0 _ (r.set x a7) _ len1 _ (s.set p a7) W11) := ⟨HK9.out.below HI.out.blw, HC9.out.below HI.out.blw, HM9.out.below HI.out.blw, HD9.out.below HI.out.blw, HI.out.is⟩
        clear HK9 HC9 HM9 HD9 HI
        have hxr : Hid (x < r.length) := by show _ < _; rw [HR.out]; exact hxl
        have hps : Hid (p < s.length) := by show _ < _; rw [HS.out]; exact hpl
        have M1 : Hid (∀ q ∈ cpP o x y, HoldP (r.set x ry) s q) := by show ∀ _, _; rw [HRY.out]; exact cp_hold (y := y) HOM.out hxr.out
        have M2 : Hid (∀ u ∈ mvP o p q, HoldP r (s.set p sq) u) := by show ∀ _, _; rw [HSQ.out]; exact mv_hold (y := q) HOM.out hps.out
        have M3 := Lib.hid (df_hold a7 HOM.out hxr.out hps.out)
        generalize r.set x (ry) = r2 at *
        generalize s.set p (sq) = s2 at *
        generalize r.set x a7 = r3 at *
        generalize s.set p a7 = s3 at *
        have C := Lib.hid (copy_ls (x : Int) (y : Int) HK11.out.k.l HOS.out (by omega))
        go_wp2_with fail
        refine C.out.mono ?_
        rintro e W12 ⟨A1, n1, c1, rfl, hP, hL⟩
        have HK1 := Lib.hid (HK11.out.below hP.blw)
        have D := Lib.hid (holds_ls hL HK1.out.c HK1.out.k.s (by omega) (by omega) (M1.out))
        clear hP hL C HK11
        go_wp2_with fail
        refine D.out.mono ?_
        rintro e W13 ⟨rfl, hb⟩
        have HK12 := Lib.hid (HK1.out.below hb)
        clear hb D HK1
        have C := Lib.hid (move_ls (p : Int) (q : Int) HK12.out.k.l HOS.out (by omega))
        go_wp2_with fail
        refine C.out.mono ?_
        rintro e W14 ⟨A1, n1, c1, rfl, hP, hL⟩
        have HK1 := Lib.hid (HK12.out.below hP.blw)
        have D := Lib.hid (holds_ls hL HK1.out.k.r HK1.out.m (by omega) (by omega) (M2.out))
        clear hP hL C HK12
        go_wp2_with fail
        refine D.out.mono ?_
        rintro e W15 ⟨rfl, hb⟩
        have HK13 := Lib.hid (HK1.out.below hb)
        clear hb D HK1
        have C := Lib.hid (define_ls (x : Int) (p : Int) HK13.out.k.l HOS.out (by omega))
        go_wp2_with fail
        refine C.out.mono ?_
        rintro e W16 ⟨A1, n1, c1, rfl, hP, hL⟩
        have HK1 := Lib.hid (HK13.out.below hP.blw)
        have D := Lib.hid (holds_ls hL HK1.out.d HK1.out.t (by omega) (by omega) (M3.out))
        clear hP hL C HK13
        go_wp2_with fail
        refine D.out.mono ?_
        rintro e W17 ⟨rfl, hb⟩
        have HK14 := Lib.hid (HK1.out.below hb)
        clear hb D HK1
        go_wp2
        go_ret
        exact ⟨rfl, HK14.out.k.blw⟩

end Go.Proofs.Ytcnkkpnfijihbaa
