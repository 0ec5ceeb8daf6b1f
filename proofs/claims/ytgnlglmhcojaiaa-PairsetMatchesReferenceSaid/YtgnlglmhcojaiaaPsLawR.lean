/-
  The walk of the statement on the reference of layer 11.
-/
import Derived.Test.YtgnlglmhcojaiaaPsLawM
namespace Go.Proofs.Ytgnlglmhcojaiaa
open Go.RowKit
set_option linter.unusedVariables false

theorem mres_cells (a b : List Pr) : ∃ r1 r2 rb, mres (misP a b) = .tuple #[.agg #[.int .i64 r1, .int .i64 r2], .bool rb] ∧ subP a b = !rb := by
  rcases h : misP a b with _ | ⟨r1, r2⟩
  · exact ⟨0, 0, false, rfl, decide_eq_true (misP_none.1 h)⟩
  · refine ⟨r1, r2, true, rfl, decide_eq_false fun hh => ?_⟩
    rw [misP_none.2 hh] at h
    cases h

set_option maxRecDepth 100000 in
set_option maxHeartbeats 8000000 in
theorem ref_big (l0 l1 : Nat) (A0 A1 : Option Addr) (c0 c1 : Nat) (x1 x2 : Int) (w : World) (h : 60 < l0 ∨ 60 < l1) :
    Calls Try.prog 3 #[.slice A0 l0 c0, .slice A1 l1 c1, .agg #[.int .i64 x1, .int .i64 x2]] w fun e w' => e = .returned (.bool true) ∧ Below w.heap.size w w' := by
  have AW := Lib.hid fun W => awake_any W
  have HB0 := Lib.hid ((Below.refl w.heap.size w).alloc (Nat.le_refl _) (prObj x1 x2))
  go_enter Try.func3, Try.ntmps3
  by_cases h0 : 60 < l0
  · have z0 : (60 : Int) < (l0 : Int) := by omega
    clear h
    go_wp2_with fail
    refine (AW.out _).mono ?_
    rintro e W1 ⟨rfl, hb⟩
    have HB := Lib.hid (HB0.out.trans (hb.mono HB0.out.size))
    clear hb
    go_wp2_with fail
    refine (AW.out _).mono ?_
    rintro e W2 ⟨rfl, hb⟩
    have HB2 := Lib.hid (HB.out.trans (hb.mono HB.out.size))
    clear hb
    go_wp2
    go_ret
    exact ⟨rfl, HB2.out⟩
  · have z0 : ¬ (60 : Int) < (l0 : Int) := by omega
    have z1 : (60 : Int) < (l1 : Int) := by omega
    clear h
    go_wp2_with fail
    refine (AW.out _).mono ?_
    rintro e W1 ⟨rfl, hb⟩
    have HB := Lib.hid (HB0.out.trans (hb.mono HB0.out.size))
    clear hb
    go_wp2_with fail
    refine (AW.out _).mono ?_
    rintro e W2 ⟨rfl, hb⟩
    have HB2 := Lib.hid (HB.out.trans (hb.mono HB.out.size))
    clear hb
    go_wp2
    go_ret
    exact ⟨rfl, HB2.out⟩

/-- What the walk carries into the great region: three boxes, the lists. -/
structure KR (w : World) (mb nb : Nat) (x1 x2 r1 r2 : Int) (la lb : List Pr) (Aa Ax Ay At : Option Addr) (na nx ny nt ca cx cy ct : Nat) (W : World) : Prop where
  blw : Below w.heap.size w W
  p : Row W w.heap.size 25 #[.int .i64 x1, .int .i64 x2]
  m : Row W mb 25 #[.int .i64 r1, .int .i64 r2]
  n : Row W nb 25 #[.int .i64 r1, .int .i64 r2]
  a : LS W Aa na ca la
  x : LS W Ax nx cx (mkP la)
  y : LS W Ay ny cy (mkP lb)
  t : LS W At nt ct (mkP (la ++ lb))
theorem KR.below {w : World} {mb nb : Nat} {x1 x2 r1 r2 : Int} {la lb : List Pr} {Aa Ax Ay At : Option Addr} {na nx ny nt ca cx cy ct : Nat} {W W' : World} (h : KR w mb nb x1 x2 r1 r2 la lb Aa Ax Ay At na nx ny nt ca cx cy ct W) (hb : Below W.heap.size W W') : KR w mb nb x1 x2 r1 r2 la lb Aa Ax Ay At na nx ny nt ca cx cy ct W' :=
  ⟨h.blw.trans (hb.mono h.blw.size), h.p.below hb h.p.lt, h.m.below hb h.m.lt, h.n.below hb h.n.lt, h.a.below hb, h.x.below hb, h.y.below hb, h.t.below hb⟩
theorem KR.cells {w : World} {mb nb : Nat} {x1 x2 r1 r2 : Int} {la lb : List Pr} {Aa Ax Ay At : Option Addr} {na nx ny nt ca cx cy ct : Nat} {W : World} (h : KR w mb nb x1 x2 r1 r2 la lb Aa Ax Ay At na nx ny nt ca cx cy ct W) :
    W.cell? ⟨w.heap.size, 0, none⟩ = some (.int .i64 x1) ∧ W.cell? ⟨w.heap.size, 1, none⟩ = some (.int .i64 x2) ∧ W.cell? ⟨mb, 0, none⟩ = some (.int .i64 r1) ∧ W.cell? ⟨mb, 1, none⟩ = some (.int .i64 r2) ∧ W.cell? ⟨nb, 0, none⟩ = some (.int .i64 r1) ∧ W.cell? ⟨nb, 1, none⟩ = some (.int .i64 r2) :=
  ⟨h.p.cell 0, h.p.cell 1, h.m.cell 0, h.m.cell 1, h.n.cell 0, h.n.cell 1⟩

set_option maxRecDepth 100000 in
set_option maxHeartbeats 16000000 in
theorem PairsetMatchesReference_walk (a0 : Option Addr) (len0 cap0 : Nat) (a1 : Option Addr) (len1 cap1 : Nat) (a2 : Array Value) (w : World) (w0 : IsPrs w a0 len0 cap0) (w1 : IsPrs w a1 len1 cap1) (w2 : IsPr w a2) :
    Calls Try.prog 3 #[.slice a0 len0 cap0, .slice a1 len1 cap1, .agg a2] w fun e w' => e = .returned (.bool true) ∧ Below w.heap.size w w' := by
  obtain ⟨la, rfl, _, hsa, hca, hma⟩ := w0
  obtain ⟨lb, rfl, _, hsb, hcb, hmb⟩ := w1
  obtain ⟨⟨x1, x2⟩, rfl, _⟩ := w2
  dsimp only
  by_cases hbig : 60 < la.length ∨ 60 < lb.length
  · exact ref_big _ _ _ _ _ _ x1 x2 w hbig
  · have n0 : la.length ≤ 60 := by omega
    have n1 : lb.length ≤ 60 := by omega
    have z0 : ¬ (60 : Int) < (la.length : Int) := by omega
    have z1 : ¬ (60 : Int) < (lb.length : Int) := by omega
    have mixed : Try.prog.follows .mixedOrders = true := by kernel_rfl
    have hGP := guard_pr
    obtain ⟨i0, hi0, hz0, hz1, hz2⟩ := info_pr
    have AW := Lib.hid fun W => awake_any W
    have hb0 := (Below.refl w.heap.size w).alloc (Nat.le_refl _) (prObj x1 x2)
    have hR := Row.new w 25 #[.int .i64 x1, .int .i64 x2]
    have HA := Lib.hid ((LS.in rfl hsa hca hma (by omega)).below hb0)
    have HB := Lib.hid ((LS.in rfl hsb hcb hmb (by omega)).below hb0)
    have HW0 := Lib.hid hb0
    have sx := Lib.hid (mkP_srt la)
    have sy := Lib.hid (mkP_srt lb)
    have lx : (mkP la).length ≤ 60 := Nat.le_trans (mkP_len _) (by omega)
    have ly : (mkP lb).length ≤ 60 := Nat.le_trans (mkP_len _) (by omega)
    obtain ⟨r1, r2, rb, hmr, hsub⟩ := mres_cells (mkP la) (mkP lb)
    have HMR := Lib.hid hmr
    have HSUB := Lib.hid hsub
    clear hsa hca hma hsb hcb hmb hb0 hmr hsub
    go_enter Try.func3, Try.ntmps3
    go_upto_region 1 with fail
    generalize (w.alloc (.cells #[.int .i64 x1, .int .i64 x2] 25)) = W0 at *
    have HR := Lib.hid hR
    clear hR
    go_wp2_with fail
    refine (AW.out _).mono ?_
    rintro e W1 ⟨rfl, hb⟩
    have HW1 := Lib.hid (HW0.out.trans (hb.mono HW0.out.size))
    have HA1 := Lib.hid (HA.out.below hb)
    have HB1 := Lib.hid (HB.out.below hb)
    have HR1 := Lib.hid (HR.out.below hb HR.out.lt)
    clear hb HA HB HR AW HW0
    have C := Lib.hid (rmake_ls HA1.out)
    go_wp2_with fail
    refine C.out.mono ?_
    rintro e W2 ⟨Ax, nx, cx, rfl, hP, hL⟩
    have HX2 := Lib.hid hL
    have HA2 := Lib.hid (HA1.out.below hP.blw)
    have HB2 := Lib.hid (HB1.out.below hP.blw)
    have HR2 := Lib.hid (HR1.out.below hP.blw HR1.out.lt)
    have HW2 := Lib.hid (HW1.out.trans (hP.blw.mono HW1.out.size))
    clear hP hL C HA1 HB1 HR1 HW1
    have C := Lib.hid (rmake_ls HB2.out)
    go_wp2_with fail
    refine C.out.mono ?_
    rintro e W3 ⟨Ay, ny, cy, rfl, hP, hL⟩
    have HY3 := Lib.hid hL
    have HX3 := Lib.hid (HX2.out.below hP.blw)
    have HA3 := Lib.hid (HA2.out.below hP.blw)
    have HB3 := Lib.hid (HB2.out.below hP.blw)
    have HR3 := Lib.hid (HR2.out.below hP.blw HR2.out.lt)
    have HW3 := Lib.hid (HW2.out.trans (hP.blw.mono HW2.out.size))
    clear hP hL C HX2 HA2 HB2 HR2 HW2
    -- Missing of the program
    have C := Lib.hid (pmissing_ls HX3.out HY3.out sx.out sy.out)
    rw [HMR.out] at C
    go_wp2_with fail
    refine C.out.mono ?_
    rintro e W4 ⟨rfl, hb⟩
    have hb5 := hb.trans ((Below.refl _ _).alloc hb.size (prObj r1 r2))
    have hM := Row.new W4 25 #[.int .i64 r1, .int .i64 r2]
    clear C
    go_upto_region 6 with fail
    generalize (W4.alloc (.cells #[.int .i64 r1, .int .i64 r2] 25)) = W5 at *
    generalize W4.heap.size = mb at *
    have HM5 := Lib.hid hM
    have HY5 := Lib.hid (HY3.out.below hb5)
    have HX5 := Lib.hid (HX3.out.below hb5)
    have HA5 := Lib.hid (HA3.out.below hb5)
    have HB5 := Lib.hid (HB3.out.below hb5)
    have HR5 := Lib.hid (HR3.out.below hb5 HR3.out.lt)
    have HW5 := Lib.hid (HW3.out.trans (hb5.mono HW3.out.size))
    clear hb hb5 hM HX3 HA3 HB3 HR3 HW3 HY3
    -- Missing of the reference
    have C := Lib.hid (rmissing_ls HX5.out HY5.out)
    rw [HMR.out] at C
    go_wp2_with fail
    refine C.out.mono ?_
    rintro e W6 ⟨rfl, hb⟩
    have hb7 := hb.trans ((Below.refl _ _).alloc hb.size (prObj r1 r2))
    have hM := Row.new W6 25 #[.int .i64 r1, .int .i64 r2]
    clear C
    go_upto_region 7 with fail
    generalize (W6.alloc (.cells #[.int .i64 r1, .int .i64 r2] 25)) = W7 at *
    generalize W6.heap.size = nb at *
    have HN7 := Lib.hid hM
    have HM7 := Lib.hid (HM5.out.below hb7 HM5.out.lt)
    have HY7 := Lib.hid (HY5.out.below hb7)
    have HX7 := Lib.hid (HX5.out.below hb7)
    have HA7 := Lib.hid (HA5.out.below hb7)
    have HB7 := Lib.hid (HB5.out.below hb7)
    have HR7 := Lib.hid (HR5.out.below hb7 HR5.out.lt)
    have HW7 := Lib.hid (HW5.out.trans (hb7.mono HW5.out.size))
    clear hb hb7 hM HX5 HA5 HB5 HR5 HW5 HY5 HM5
    -- all
    have hs9 := (HA7.out.see).alloc (Nat.le_refl _) (.cells #[] 25)
    go_wp2_with (at_builtin; refine wpList_append_any _ rfl (.tmp 43) (.tmp 44) 22 rfl W7.heap.size 25 i0 (.agg #[.int .i64 0, .int .i64 0]) 2 16 Try.underlying22 hi0 hz0 hz1 hz2 rfl (by decide) _ _ _ rfl (own_empty W7 25 2) W7.heap.size _ _ _ (prs la) rfl hs9 (prs_length _) (prs_one _) ?c1 ?c2 ?c3 ?_)
    case c1 => unfold maxLen; omega
    case c2 => omega
    case c3 => simp
    intro v8 W8 ho1 hg1 _
    have HP8 : Hid (PL W7 v8 la W8) := PL.clone (by omega) ho1 hg1
    clear ho1 hg1 hs9
    have hs9 := (HB7.out.below HP8.out.blw).see
    have hown := HP8.out.own
    go_wp2_with (at_builtin; refine wpList_append_any _ rfl (.tmp 45) (.tmp 46) 22 rfl _ 25 i0 (.agg #[.int .i64 0, .int .i64 0]) 2 16 Try.underlying22 hi0 hz0 hz1 hz2 rfl (by decide) _ _ _ rfl hown W8.heap.size _ _ _ (prs lb) rfl hs9 (prs_length _) (prs_one _) ?c1 ?c2 ?c3 ?_)
    case c1 => unfold maxLen; omega
    case c2 => omega
    case c3 => exact HP8.out.blw.size
    intro v9 W9 ho9 hg9 _
    have HP9 := Lib.hid (HP8.out.push2 lb rfl rfl ho9 hg9)
    clear ho9 hg9 hs9 hown HP8
    obtain ⟨At, ct, rfl, _, _⟩ := HP9.out.slice
    have hab : (la ++ lb).length ≤ 120 := by simp; omega
    have HT9 := Lib.hid (HP9.out.ls (by omega))
    generalize (la ++ lb).length = nab at *
    have C := Lib.hid (rmake_ls HT9.out)
    go_wp2_with fail
    refine C.out.mono ?_
    rintro e W10 ⟨At, nt, ct, rfl, hP, hL⟩
    have hb10 := HP9.out.blw.trans (hP.blw.mono HP9.out.blw.size)
    have HK : Hid (KR w mb nb x1 x2 r1 r2 la lb a0 Ax Ay At la.length nx ny nt cap0 cx cy ct W10) :=
      ⟨HW7.out.trans (hb10.mono HW7.out.size), HR7.out.below hb10 HR7.out.lt, HM7.out.below hb10 HM7.out.lt, HN7.out.below hb10 HN7.out.lt, HA7.out.below hb10, HX7.out.below hb10, HY7.out.below hb10, hL⟩
    clear hP hL hb10 C HP9 HT9 HW7 HR7 HM7 HN7 HA7 HX7 HY7 HB7
    have hnx : nx ≤ 60 := by have := HK.out.x.len; omega
    have hny : ny ≤ 60 := by have := HK.out.y.len; omega
    go_upto_region 8 with fail
    obtain ⟨bs, hbs⟩ : ∃ z, z = srtB la := ⟨_, rfl⟩
    obtain ⟨bh, hbh⟩ : ∃ z, z = hasP (mkP la) (x1, x2) := ⟨_, rfl⟩
    have KS : Hid (∀ V, Below W10.heap.size W10 V → KR w mb nb x1 x2 r1 r2 la lb a0 Ax Ay At la.length nx ny nt cap0 cx cy ct V) := fun V h => HK.out.below h
    have C1 : Hid (∀ V, Below W10.heap.size W10 V → Calls Try.prog 13 #[.slice a0 la.length cap0] V fun e w' => e = .returned (.bool bs) ∧ Below W10.heap.size W10 w') := fun V h => by
      rw [hbs]; exact (psorted_ls (KS.out V h).a).mono fun e w' ⟨he, hg⟩ => ⟨he, h.trans (hg.below.mono h.size)⟩
    have C2 : Hid (∀ V, Below W10.heap.size W10 V → Calls Try.prog 14 #[.slice a0 la.length cap0] V fun e w' => e = .returned (.bool bs) ∧ Below W10.heap.size W10 w') := fun V h => by
      rw [hbs]; exact (rsorted_ls (KS.out V h).a).mono fun e w' ⟨he, hg⟩ => ⟨he, h.trans (hg.below.mono h.size)⟩
    have C3 : Hid (∀ V, Below W10.heap.size W10 V → Calls Try.prog 17 #[.slice Ax nx cx, .agg #[.int .i64 x1, .int .i64 x2]] V fun e w' => e = .returned (.bool bh) ∧ Below W10.heap.size W10 w') := fun V h => by
      rw [hbh]; exact (phas_ls (x1, x2) (KS.out V h).x sx.out).mono fun e w' ⟨he, hg⟩ => ⟨he, h.trans (hg.below.mono h.size)⟩
    have C4 : Hid (∀ V, Below W10.heap.size W10 V → Calls Try.prog 18 #[.slice Ax nx cx, .agg #[.int .i64 x1, .int .i64 x2]] V fun e w' => e = .returned (.bool bh) ∧ Below W10.heap.size W10 w') := fun V h => by
      rw [hbh]; exact (rhas_ls (x1, x2) (KS.out V h).x).mono fun e w' ⟨he, hg⟩ => ⟨he, h.trans (hg.below.mono h.size)⟩
    have C5 : Hid (∀ V, Below W10.heap.size W10 V → Calls Try.prog 16 #[.slice a0 la.length cap0] V fun e w' => ∃ A n c, e = .returned (.slice A n c) ∧ LS w' A n c (mkP la) ∧ Below W10.heap.size W10 w' ∧ Below V.heap.size V w') := fun V h =>
      (pmake_ls (KS.out V h).a).mono fun e w' ⟨A, n, c, he, hP, hL⟩ => ⟨A, n, c, he, hL, h.trans (hP.blw.mono h.size), hP.blw⟩
    have C6 : Hid (∀ V, Below W10.heap.size W10 V → Calls Try.prog 19 #[.slice Ax nx cx, .agg #[.int .i64 x1, .int .i64 x2]] V fun e w' => ∃ A n c, e = .returned (.slice A n c) ∧ LS w' A n c (mkP (mkP la ++ [(x1, x2)])) ∧ Below W10.heap.size W10 w' ∧ Below V.heap.size V w') := fun V h =>
      (padd_ls (x1, x2) (KS.out V h).x sx.out (by omega)).mono fun e w' ⟨A, n, c, he, hP, hL⟩ => ⟨A, n, c, he, hL, h.trans (hP.blw.mono h.size), hP.blw⟩
    have C7 : Hid (∀ V, Below W10.heap.size W10 V → Calls Try.prog 20 #[.slice Ax nx cx, .agg #[.int .i64 x1, .int .i64 x2]] V fun e w' => ∃ A n c, e = .returned (.slice A n c) ∧ LS w' A n c (mkP (mkP la ++ [(x1, x2)])) ∧ Below W10.heap.size W10 w' ∧ Below V.heap.size V w') := fun V h =>
      (radd_ls (x1, x2) (KS.out V h).x sx.out (by omega)).mono fun e w' ⟨A, n, c, he, hP, hL⟩ => ⟨A, n, c, he, hL, h.trans (hP.blw.mono h.size), hP.blw⟩
    have C8 : Hid (∀ V, Below W10.heap.size W10 V → Calls Try.prog 21 #[.slice Ax nx cx, .slice Ay ny cy] V fun e w' => e = .returned (.bool (!rb)) ∧ Below W10.heap.size W10 w') := fun V h => by
      rw [← HSUB.out]; exact (psubset_ls (KS.out V h).x (KS.out V h).y sx.out sy.out).mono fun e w' ⟨he, hg⟩ => ⟨he, h.trans (hg.mono h.size)⟩
    have C9 : Hid (∀ V, Below W10.heap.size W10 V → Calls Try.prog 22 #[.slice Ax nx cx, .slice Ay ny cy] V fun e w' => ∃ A n c, e = .returned (.slice A n c) ∧ LS w' A n c (mkP (la ++ lb)) ∧ Below W10.heap.size W10 w' ∧ Below V.heap.size V w') := fun V h => by
      rw [show mkP (la ++ lb) = mkP (mkP la ++ mkP lb) from mkP_congr fun q => by simp [mem_mkP]]
      exact (punion_ls (KS.out V h).x (KS.out V h).y sx.out sy.out (by omega)).mono fun e w' ⟨A, n, c, he, hP, hL⟩ => ⟨A, n, c, he, hL, h.trans (hP.blw.mono h.size), hP.blw⟩
    have CS : Hid (∀ V, Below W10.heap.size W10 V → ∀ A n c A' n' c' l, LS V A n c l → LS V A' n' c' l → Calls Try.prog 15 #[.slice A n c, .slice A' n' c'] V fun e w' => e = .returned (.bool true) ∧ Below W10.heap.size W10 w') := fun V h A n c A' n' c' l hl hl' => by
      have := same_lsB hl hl'
      rw [show decide (l = l) = true from decide_eq_true rfl] at this
      exact this.mono fun e w' ⟨he, hg⟩ => ⟨he, h.trans (hg.mono h.size)⟩
    have hq : ∀ W, (binOp .eql 25 (.agg #[.int .i64 r1, .int .i64 r2]) (.agg #[.int .i64 r1, .int .i64 r2])).run Try.prog W = .ok (.bool true) W := fun W => by
      have := eq_pr (r1, r2) (r1, r2) W
      rwa [show decide (((r1, r2) : Pr) = (r1, r2)) = true from decide_eq_true rfl] at this
    have hbs2 : (bs == bs) = true := by simp
    have hbh2 : (bh == bh) = true := by simp
    have hrb2 : (rb == rb) = true := by simp
    have hrb3 : ((!rb) == (!rb)) = true := by simp
    have HS := Lib.hid fun V (h : Below W10.heap.size W10 V) => (KS.out V h).cells
    have hG := Below.refl W10.heap.size W10
    clear hbs hbh
    go_region_held3 (fun w' => w'.cell? ⟨w.heap.size, 0, none⟩ = some (.int .i64 x1) ∧ w'.cell? ⟨w.heap.size, 1, none⟩ = some (.int .i64 x2) ∧ w'.cell? ⟨mb, 0, none⟩ = some (.int .i64 r1) ∧ w'.cell? ⟨mb, 1, none⟩ = some (.int .i64 r2) ∧ w'.cell? ⟨nb, 0, none⟩ = some (.int .i64 r1) ∧ w'.cell? ⟨nb, 1, none⟩ = some (.int .i64 r2)) (first | exact HS.out _ hG | exact HS.out _ hG.drew | exact HS.out _ (blw_drewN hG _)) (first
      | (go_at_call 13; go_must ((with_reducible refine (C1.out _ (by first | exact hG | exact hG.drew | exact blw_drewN hG _ | exact (blw_drewN hG _).drew)).mono ?_); rintro e V ⟨rfl, hG⟩))
      | (go_at_call 14; go_must ((with_reducible refine (C2.out _ (by first | exact hG | exact hG.drew | exact blw_drewN hG _ | exact (blw_drewN hG _).drew)).mono ?_); rintro e V ⟨rfl, hG⟩))
      | (go_at_call 17; go_must ((with_reducible refine (C3.out _ (by first | exact hG | exact hG.drew | exact blw_drewN hG _ | exact (blw_drewN hG _).drew)).mono ?_); rintro e V ⟨rfl, hG⟩))
      | (go_at_call 18; go_must ((with_reducible refine (C4.out _ (by first | exact hG | exact hG.drew | exact blw_drewN hG _ | exact (blw_drewN hG _).drew)).mono ?_); rintro e V ⟨rfl, hG⟩))
      | (go_at_call 16; go_must ((with_reducible refine (C5.out _ (by first | exact hG | exact hG.drew | exact blw_drewN hG _ | exact (blw_drewN hG _).drew)).mono ?_); rintro e V ⟨A1, n1, c1, rfl, hL1, hG, hV⟩))
      | (go_at_call 19; go_must ((with_reducible refine (C6.out _ (by first | exact hG | exact hG.drew | exact blw_drewN hG _ | exact (blw_drewN hG _).drew)).mono ?_); rintro e V ⟨A2, n2, c2, rfl, hL2, hG, hV⟩))
      | (go_at_call 20; go_must ((with_reducible refine (C7.out _ (by first | exact hG | exact hG.drew | exact blw_drewN hG _ | exact (blw_drewN hG _).drew)).mono ?_); rintro e V ⟨A3, n3, c3, rfl, hL3, hG, hV⟩; have hL2 := LS.below (by first | exact hL2 | exact hL2.below (Below.refl _ _).drew | exact hL2.below (blw_drewN (Below.refl _ _) _) | exact hL2.below (blw_drewN (Below.refl _ _) _).drew) hV))
      | (go_at_call 21; go_must ((with_reducible refine (C8.out _ (by first | exact hG | exact hG.drew | exact blw_drewN hG _ | exact (blw_drewN hG _).drew)).mono ?_); rintro e V ⟨rfl, hG⟩))
      | (go_at_call 22; go_must ((with_reducible refine (C9.out _ (by first | exact hG | exact hG.drew | exact blw_drewN hG _ | exact (blw_drewN hG _).drew)).mono ?_); rintro e V ⟨A4, n4, c4, rfl, hL4, hG, hV⟩))
      | (go_at_call 15; go_must ((first | (refine (CS.out _ (by first | exact hG | exact hG.drew | exact blw_drewN hG _ | exact (blw_drewN hG _).drew) A4 n4 c4 At nt ct _ (by first | exact hL4 | exact hL4.below (Below.refl _ _).drew | exact hL4.below (blw_drewN (Below.refl _ _) _) | exact hL4.below (blw_drewN (Below.refl _ _) _).drew) (KS.out _ (by first | exact hG | exact hG.drew | exact blw_drewN hG _ | exact (blw_drewN hG _).drew)).t).mono ?_) | (refine (CS.out _ (by first | exact hG | exact hG.drew | exact blw_drewN hG _ | exact (blw_drewN hG _).drew) A2 n2 c2 A3 n3 c3 _ (by first | exact hL2 | exact hL2.below (Below.refl _ _).drew | exact hL2.below (blw_drewN (Below.refl _ _) _) | exact hL2.below (blw_drewN (Below.refl _ _) _).drew) (by first | exact hL3 | exact hL3.below (Below.refl _ _).drew | exact hL3.below (blw_drewN (Below.refl _ _) _) | exact hL3.below (blw_drewN (Below.refl _ _) _).drew)).mono ?_) | (refine (CS.out _ (by first | exact hG | exact hG.drew | exact blw_drewN hG _ | exact (blw_drewN hG _).drew) A1 n1 c1 Ax nx cx _ (by first | exact hL1 | exact hL1.below (Below.refl _ _).drew | exact hL1.below (blw_drewN (Below.refl _ _) _) | exact hL1.below (blw_drewN (Below.refl _ _) _).drew) (KS.out _ (by first | exact hG | exact hG.drew | exact blw_drewN hG _ | exact (blw_drewN hG _).drew)).x).mono ?_)); rintro e V ⟨rfl, hG⟩))
      )
    go_wp2
    go_ret
    exact ⟨rfl, HK.out.blw.trans (hG.mono HK.out.blw.size)⟩

end Go.Proofs.Ytgnlglmhcojaiaa
