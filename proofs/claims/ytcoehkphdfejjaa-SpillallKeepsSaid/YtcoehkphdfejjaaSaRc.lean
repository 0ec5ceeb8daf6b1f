/-
  The reference's Cert (written by wip/lab/gensarc.py).
-/
import Derived.Test.YtcoehkphdfejjaaPk43
import Derived.Test.YtcoehkphdfejjaaSaRa
import Derived.Test.YtcoehkphdfejjaaPk2
namespace Go.Proofs.Ytcoehkphdfejjaa
open Go.RowKit
set_option linter.unusedVariables false
set_option linter.unusedSimpArgs false

theorem rcopy_nc (A : Option Addr) (bs : List Blk) (c : Nat) (a r : Int) (w : World) (hs : BlksAt w w.heap.size A bs) (hm : bs.length ≤ 1000) (hn : codeN bs ≤ 1000000) :
    Calls Try.prog 19 #[.agg #[.int .i64 a, .int .i64 r, .slice A bs.length c]] w fun e w' => ∃ A' c', e = .returned (.agg #[.int .i64 a, .int .i64 r, .slice A' bs.length c']) ∧ NC bshp w (.slice A' bs.length c') bs w' :=
  (rcopy_any _ A bs c a r w hs (Nat.le_refl _) hm hn).mono fun e w' ⟨v, vs, he, hne, hb⟩ => by
    obtain ⟨A', c', rfl, _, _, _⟩ := nest_blks hne
    exact ⟨A', c', he, ⟨vs, hne⟩, hb⟩

def mxB (bs : List Blk) : Nat := bs.foldl (fun m b => max m (mvs (spB b).code)) 0

theorem mxB_snoc (bs : List Blk) (b : Blk) : mxB (bs ++ [b]) = max (mxB bs) (mvs (spB b).code) := by simp [mxB, List.foldl_append]

theorem mxB_long (bs : List Blk) : longB bs = decide (64 < mxB bs) := by
  have key : ∀ (bs : List Blk) (m : Nat), decide (64 < bs.foldl (fun m b => max m (mvs (spB b).code)) m) = (decide (64 < m) || longB bs) := by
    intro bs
    induction bs with
    | nil => intro m; show decide (64 < m) = (decide (64 < m) || false); rw [Bool.or_false]
    | cons b bs ih =>
      intro m
      rw [List.foldl_cons, ih]
      have : longB (b :: bs) = (decide (64 < mvs (spB b).code) || longB bs) := rfl
      rw [this, ← Bool.or_assoc]
      congr 1
      rw [Bool.eq_iff_iff]
      simp
      omega
  have := key bs 0
  unfold mxB
  rw [this]
  simp

set_option maxRecDepth 100000 in
set_option maxHeartbeats 8000000 in
theorem rcert22 (A : Option Addr) (bs : List Blk) (c : Nat) (a r : Int) (w : World) (hs : BlksAt w w.heap.size A bs) (hf : FewF r bs) :
    Calls Try.prog 9 #[.agg #[.int .i64 a, .int .i64 r, .slice A bs.length c]] w (SaP w (spR a r bs)) := by
  have mixed : Try.prog.follows .mixedOrders = true := by kernel_rfl
  obtain ⟨hm, hr60, hcn⟩ := hf
  have HX := Lib.hid ((Row.new w 24 #[.int .i64 a, .int .i64 r, .slice A bs.length c]).alloc (.cells #[.int .i64 0, .int .i64 0, .slice none 0 0, .int .i64 0, .int .i64 0, .int .i64 0, .slice none 0 0, .slice none 0 0] 32))
  have HY := Row.new (w.alloc (.cells #[.int .i64 a, .int .i64 r, .slice A bs.length c] 24)) 32 #[.int .i64 0, .int .i64 0, .slice none 0 0, .int .i64 0, .int .i64 0, .int .i64 0, .slice none 0 0, .slice none 0 0]
  rw [show (w.alloc (.cells #[.int .i64 a, .int .i64 r, .slice A bs.length c] 24)).heap.size = w.heap.size + 1 by simp] at HY
  have HY := Lib.hid HY
  have hb0 : Below w.heap.size w ((w.alloc (.cells #[.int .i64 a, .int .i64 r, .slice A bs.length c] 24)).alloc (.cells #[.int .i64 0, .int .i64 0, .slice none 0 0, .int .i64 0, .int .i64 0, .int .i64 0, .slice none 0 0, .slice none 0 0] 32)) := ((Below.refl _ _).alloc (Nat.le_refl _) _).alloc (by simp) _
  have HB0 := Lib.hid hb0
  have hs0 := (hs.below hb0).more hb0.size
  obtain ⟨er, her⟩ : ∃ z, eF a r bs = z := ⟨_, rfl⟩
  have HSR : Hid (spR a r bs = if er ≠ 0 then (nCt, er) else if longB bs = true then (nCt, 15) else (spC a r bs, 0)) := by rw [← her]; rfl
  have C1 := Lib.hid fun W (h : Below ((w.alloc (.cells #[.int .i64 a, .int .i64 r, .slice A bs.length c] 24)).alloc (.cells #[.int .i64 0, .int .i64 0, .slice none 0 0, .int .i64 0, .int .i64 0, .int .i64 0, .slice none 0 0, .slice none 0 0] 32)).heap.size ((w.alloc (.cells #[.int .i64 a, .int .i64 r, .slice A bs.length c] 24)).alloc (.cells #[.int .i64 0, .int .i64 0, .slice none 0 0, .int .i64 0, .int .i64 0, .int .i64 0, .slice none 0 0, .slice none 0 0] 32)) W) => rcheck_any _ A bs c a r W ((hs0.below h).more h.size) (Nat.le_refl _) (by omega) (by omega)
  rw [her] at C1
  have HER := Lib.hid her
  clear hs hb0 her
  obtain ⟨SR, hSR⟩ : ∃ z, spR a r bs = z := ⟨_, rfl⟩
  rw [hSR] at HSR ⊢
  clear hSR
  go_enter Try.func9, Try.ntmps9
  go_upto_region 1 with fail
  generalize ((w.alloc (.cells #[.int .i64 a, .int .i64 r, .slice A bs.length c] 24)).alloc (.cells #[.int .i64 0, .int .i64 0, .slice none 0 0, .int .i64 0, .int .i64 0, .int .i64 0, .slice none 0 0, .slice none 0 0] 32)) = W0 at *
  obtain ⟨b1, hb1⟩ : ∃ z, w.heap.size = z := ⟨_, rfl⟩
  obtain ⟨b2, hb2⟩ : ∃ z, w.heap.size + 1 = z := ⟨_, rfl⟩
  have h12 : b1 < b2 := by omega
  have hwb : w.heap.size ≤ b2 := by omega
  rw [hb1] at HX
  rw [hb2] at HY
  rw [hb2, hb1]
  clear hb1 hb2
  have x0 := HX.out.k0; have x1 := HX.out.k1; have x2 := HX.out.k2
  go_wp2_with fail
  refine (C1.out _ (Below.refl _ _)).mono ?_
  rintro e W1 ⟨rfl, hb⟩
  have HB1 := Lib.hid (HB0.out.trans (hb.mono HB0.out.size))
  have HX1 := Lib.hid (HX.out.below hb HX.out.lt)
  have HY1 := Lib.hid (HY.out.below hb HY.out.lt)
  have HWW := Lib.hid hb
  clear hb C1 x0 x1 x2 HX HY
  by_cases hz : er = 0
  · have e1 : (er != 0) = false := by simp [hz]
    have her := HER.out
    rw [hz] at her HSR
    simp only [ne_eq, not_true_eq_false, if_false] at HSR
    obtain ⟨q1, q2, q3, q4, q5, q6, q7⟩ := eF_of her
    have H7 := Lib.hid q7
    have HI22 : Hid (∀ b ∈ bs, (∀ i ∈ b.code, In22 i) ∧ Tm22 b.term) := fun b hb => ⟨fun i hi => in22_of ((q7 b hb).1 i hi) (by omega), tm22_of (q7 b hb).2 (by omega)⟩
    clear hz her q7 HER
    have HB2 := HB1
    have HX2 := HX1
    have HY2 := HY1
    have hs2 := (hs0.below HWW.out).more HWW.out.size
    clear HX1 HY1 HB1 HWW hs0 HB0
    obtain ⟨W2, hW2⟩ : ∃ z, W1 = z := ⟨_, rfl⟩
    rw [hW2] at HB2 HX2 HY2 hs2 ⊢
    clear hW2
    have x1 := HX2.out.k1; have x2 := HX2.out.k2
    obtain ⟨m, hmm⟩ : ∃ m : Int, (bs.length : Int) * r = m := ⟨_, rfl⟩
    have hm1 : 0 ≤ m ∧ m ≤ 2400 := by
      have h0 : 0 ≤ (bs.length : Int) * r := Int.mul_nonneg (by omega) (by omega)
      have h1 : (bs.length : Int) * r ≤ 40 * r := Int.mul_le_mul_of_nonneg_right (by omega) (by omega)
      omega
    have hwr : IntKind.i64.wrap ((bs.length : Int) * r) = m := by rw [hmm, IntKind.wrap_i64]; omega
    have hle2 : decide (1048576 < m) = false := decide_eq_false (by omega)
    clear hmm
    go_upto_region 6 with fail
    clear x1 x2 hwr hle2 hm1
    have HLEN : Hid (∀ b ∈ bs, b.code.length ≤ 1000) := fun b hb => by
      obtain ⟨i, hi, rfl⟩ := List.getElem_of_mem hb
      have := codeN_mem bs i hi
      omega
    have HS2 := Lib.hid hs2
    have x0 := HX2.out.k0; have x1 := HX2.out.k1; have x2 := HX2.out.k2
    clear hs2
    go_cut [5] from 25 (fun s5 wx => ∃ cb A1 c1, s5 = .pointer (some ⟨cb, 0, none⟩) ∧ Hid (CT W2 b1 b2 cb #[.int .i64 a, .int .i64 r, .slice A bs.length c] a r r.toNat bs (.slice A1 bs.length c1) 0 none 0 [] 0 none 0 [] wx))
    case first =>
      have HG : Hid (Below W2.heap.size W2 W2.drew) := blw_drew W2 1
      go_wp2_with fail
      refine wp_region_held_drew (S := fun w' => w'.cell? ⟨b1, 0, none⟩ = some (.int .i64 a) ∧ w'.cell? ⟨b1, 1, none⟩ = some (.int .i64 r) ∧ w'.cell? ⟨b1, 2, none⟩ = some (.slice A bs.length c)) (by kernel_rfl) ⟨x0, x1, x2⟩ (fun hHeld => ?_)
      generalize hVV : W2.drew = V at *
      clear hVV
      refine take_at 0 25 (.agg #[.int .i64 a, .int .i64 r, .slice A bs.length c]) rfl rfl (by kernel_rfl) (by kernel_rfl) (by kernel_rfl) (fun _ _ _ h => h) (Or.inl ⟨by rfl, ?_⟩) hHeld ?_
      · intro w9 hSw
        (try dsimp only at hSw)
        go_simp
      (try simp only [Act.put, List.setIfInBounds_toArray, List.set_cons_zero, List.set_cons_succ])
      refine take_at 2 27 (.pointer (some ⟨b1, 0, none⟩)) rfl rfl (by kernel_rfl) (by kernel_rfl) (by kernel_rfl) (fun _ _ _ h => h) (Or.inl ⟨by rfl, ?_⟩) hHeld ?_
      · intro w9 hSw
        (try dsimp only at hSw)
        go_simp
      (try simp only [Act.put, List.setIfInBounds_toArray, List.set_cons_zero, List.set_cons_succ])
      refine take_at 3 28 (.int .i64 a) rfl rfl (by kernel_rfl) (by kernel_rfl) (by kernel_rfl) (fun _ _ _ h => h) (Or.inl ⟨by rfl, ?_⟩) hHeld ?_
      · intro w9 hSw
        (try dsimp only at hSw)
        go_simp
      (try simp only [Act.put, List.setIfInBounds_toArray, List.set_cons_zero, List.set_cons_succ])
      refine take_at 4 29 (.pointer (some ⟨b1, 1, none⟩)) rfl rfl (by kernel_rfl) (by kernel_rfl) (by kernel_rfl) (fun _ _ _ h => h) (Or.inl ⟨by rfl, ?_⟩) hHeld ?_
      · intro w9 hSw
        (try dsimp only at hSw)
        go_simp
      (try simp only [Act.put, List.setIfInBounds_toArray, List.set_cons_zero, List.set_cons_succ])
      refine take_at 5 30 (.int .i64 r) rfl rfl (by kernel_rfl) (by kernel_rfl) (by kernel_rfl) (fun _ _ _ h => h) (Or.inl ⟨by rfl, ?_⟩) hHeld ?_
      · intro w9 hSw
        (try dsimp only at hSw)
        go_simp
      (try simp only [Act.put, List.setIfInBounds_toArray, List.set_cons_zero, List.set_cons_succ])
      refine take_at 6 31 (.agg #[.int .i64 a, .int .i64 2, .int .i64 r, .slice none 0 0]) rfl rfl (by kernel_rfl) (by kernel_rfl) (by kernel_rfl) (fun _ _ _ h => h) (Or.inl ⟨by rfl, ?_⟩) hHeld ?_
      · intro w9 hSw
        (try dsimp only at hSw)
        go_simp
      (try simp only [Act.put, List.setIfInBounds_toArray, List.set_cons_zero, List.set_cons_succ])
      repeat' (first
        | exact AllReadyH.nil
        | (refine AllReadyH.cons (i := 1) rfl (fun K hK => ?_) ?_; focus (go_simp; refine (rcopy_nc A bs c a r V ((HS2.out.below HG.out).more HG.out.size) (by omega) (by omega)).mono ?_; rintro e V ⟨A1, c1, rfl, hP⟩; (try go_wp2_with fail); (try replace HCB := Lib.hid (HCB.out.below hP.blw HCB.out.lt)); have HP := Lib.hid (hP.base HG.out); replace HG := Lib.hid (HG.out.trans (hP.blw.mono HG.out.size)); refine hK.out _ _ ⟨(HX2.out.below HG.out HX2.out.lt).k0, (HX2.out.below HG.out HX2.out.lt).k1, (HX2.out.below HG.out HX2.out.lt).k2⟩ (fun hHeld => ?_); clear hK K; clear hP; refine take_at 7 32 (.agg #[.int .i64 a, .int .i64 r, .slice A1 bs.length c1, .int .i64 a, .int .i64 2, .int .i64 r, .slice none 0 0, .slice none 0 0]) rfl rfl (by kernel_rfl) (by kernel_rfl) (by kernel_rfl) (fun _ _ _ h => h) (Or.inl ⟨by rfl, by (intro w9 hSw; (try dsimp only at hSw); go_simp)⟩) hHeld ?_; (try simp only [Act.put, List.setIfInBounds_toArray, List.set_cons_zero, List.set_cons_succ])))
        | (refine AllReadyH.cons (i := 8) rfl (fun K hK => ?_) ?_; focus (go_simp; have hcb := HG.out.size; have HCB := Lib.hid (Row.new V 32 #[.int .i64 0, .int .i64 0, .slice none 0 0, .int .i64 0, .int .i64 0, .int .i64 0, .slice none 0 0, .slice none 0 0]); (try replace HP := Lib.hid (HP.out.alloc (.cells #[.int .i64 0, .int .i64 0, .slice none 0 0, .int .i64 0, .int .i64 0, .int .i64 0, .slice none 0 0, .slice none 0 0] 32))); replace HG := Lib.hid (HG.out.alloc HG.out.size (.cells #[.int .i64 0, .int .i64 0, .slice none 0 0, .int .i64 0, .int .i64 0, .int .i64 0, .slice none 0 0, .slice none 0 0] 32)); refine hK.out _ _ ⟨(HX2.out.below HG.out HX2.out.lt).k0, (HX2.out.below HG.out HX2.out.lt).k1, (HX2.out.below HG.out HX2.out.lt).k2⟩ (fun hHeld => ?_); clear hK K; generalize V.heap.size = cb at *; generalize V.alloc (.cells #[.int .i64 0, .int .i64 0, .slice none 0 0, .int .i64 0, .int .i64 0, .int .i64 0, .slice none 0 0, .slice none 0 0] 32) = V at *))
        | (refine AllReadyH.cons (i := 9) rfl (fun K hK => ?_) ?_; focus (have hr0 := HCB.out; have k0 := hr0.k0; have k1 := hr0.k1; have k2 := hr0.k2; have k3 := hr0.k3; have k4 := hr0.k4; have k5 := hr0.k5; have k6 := hr0.k6; have k7 := hr0.k7; have f0 := hr0.frozen 0; have f1 := hr0.frozen 1; have f2 := hr0.frozen 2; have f3 := hr0.frozen 3; have f4 := hr0.frozen 4; have f5 := hr0.frozen 5; have f6 := hr0.frozen 6; have f7 := hr0.frozen 7; have hM := mods8s V cb (.int .i64 a) (.int .i64 r) (.slice A1 bs.length c1) (.int .i64 a) (.int .i64 2) (.int .i64 r) (.slice none 0 0) (.slice none 0 0); have HN1 := Lib.hid (HP.out.ty (put_ty hr0 hM) (by decide) (by decide) (HG.out.trans (hM.below HG.out.size fun k hk => by unfold Is at hk; omega))); replace HG := Lib.hid (HG.out.trans (hM.below HG.out.size fun k hk => by unfold Is at hk; omega)); replace HCB := Lib.hid (Row.put8s hr0 (.int .i64 a) (.int .i64 r) (.slice A1 bs.length c1) (.int .i64 a) (.int .i64 2) (.int .i64 r) (.slice none 0 0) (.slice none 0 0)); clear hr0; go_simp; refine hK.out _ _ ⟨(HX2.out.below HG.out HX2.out.lt).k0, (HX2.out.below HG.out HX2.out.lt).k1, (HX2.out.below HG.out HX2.out.lt).k2⟩ (fun hHeld => ?_); clear hK K))
        | refine wpAnyH_ready (rs := [1, 8]) (by decide +kernel) (by simp) ?_
        | refine wpAnyH_ready (rs := [1]) (by decide +kernel) (by simp) ?_
        | refine wpAnyH_ready (rs := [8]) (by decide +kernel) (by simp) ?_
        | refine wpAnyH_ready (rs := [9]) (by decide +kernel) (by simp) ?_
        | (refine wpAnyH_done (by decide +kernel) ?_ _; clear hHeld; go_wp2_with fail; focus (go_meet; case rel => exact ⟨cb, A1, _, rfl, ⟨HX2.out.below HG.out HX2.out.lt, HY2.out.below HG.out HY2.out.lt, HCB.out, HN1.out, NC.nil _ HG.out, NC.nil _ HG.out, rfl, rfl, h12, HY2.out.lt, hcb⟩⟩)))
    case rest =>
      obtain ⟨cb, A1, c1, rfl, HC⟩ := hcut
      clear x0 x1 x2
      obtain ⟨i0, hi0, hz0, hz1, hz2⟩ := info_parts infoMB
      obtain ⟨i3, hi3, hy0, hy1, hy2⟩ := info_parts infoPl
      obtain ⟨i5, hi5, hv0, hv1, hv2⟩ := info_pr
      have HIL := Lib.hid (invN_len r.toNat)
      obtain ⟨n, hn⟩ : ∃ n, r.toNat = n := ⟨_, rfl⟩
      have hrn : r = (n : Int) := by omega
      have hn60 : n ≤ 60 := by omega
      rw [hn] at HIL
      have HRN := Lib.hid hn
      have HRI := Lib.hid hrn
      clear hn hrn
      go_upto_region 9 with fail
      go_loopg [6, 7] bs.length (fun g v6 v7 wr => ∃ (i : Nat) (mx : Nat) (A2 : Option Addr) (c2 : Nat) (A3 : Option Addr) (c3 : Nat), i + g = bs.length ∧ v7 = .int .i64 (i : Int) ∧ v6 = .int .i64 (mx : Int) ∧ mx ≤ 10000 ∧ Hid (mxB (bs.take i) = mx) ∧ Hid (CT W2 b1 b2 cb #[.int .i64 a, .int .i64 r, .slice A bs.length c] a r r.toNat bs (.slice A1 bs.length c1) i A2 c2 ((bs.take i).map spB) i A3 c3 ((bs.take i).map fun _ => invN n) wr))
      case atStart => exact ⟨0, 0, none, 0, none, 0, by omega, by go_num, by go_num, by omega, rfl, HC.out⟩
      case round =>
        obtain ⟨i, mx, A2, c2, A3, c3, hg, rfl, rfl, hmx, HMX, HC2⟩ := hrel
        clear HC
        have x2 := HC2.out.x1.k2
        by_cases hlt : i < bs.length
        · obtain ⟨b', o, rfl, hb, hy⟩ := (HS2.out.below HC2.out.n1.blw).at_ hlt
          have hyl := HLEN.out _ (List.getElem_mem hlt)
          obtain ⟨hyin, hytm⟩ := HI22.out _ (List.getElem_mem hlt)
          have HT := Lib.hid (show bs.take (i + 1) = bs.take i ++ [bs[i]] from List.take_succ_eq_append_getElem hlt)
          obtain ⟨l2, hl2⟩ : ∃ z, (bs.take i).map spB = z := ⟨_, rfl⟩
          obtain ⟨l3, hl3⟩ : ∃ z, ((bs.take i).map fun _ => invN n) = z := ⟨_, rfl⟩
          rw [hl2, hl3] at HC2
          have HL2 := Lib.hid hl2
          have HL3 := Lib.hid hl3
          clear hl2 hl3
          generalize bs[i] = y at *
          obtain ⟨A4, c4, f0, hc1, hc2, hins⟩ := hy.code
          have f1 := hy.t0; have f2 := hy.t1; have f3 := hy.t2; have f4 := hy.t3
          clear hy
          have hkz : (i : Int) < (bs.length : Int) := by omega
          have hzz := HC2.out.n1.blw.size
          have C5 := Lib.hid (rblock22 A4 y c4 wr (hins.more hzz) (by omega) hytm hyin)
          clear hins
          go_upto_region 11 with fail
          go_wp2_with fail
          refine C5.out.mono ?_
          rintro e W6 ⟨A5, c5, rfl, ho, hb⟩
          have HO6 := Lib.hid ho
          have HB6 := Lib.hid hb
          obtain ⟨ys, hys⟩ : ∃ z, (spB y).code = z := ⟨_, rfl⟩
          have hok := sp_locok hyin hytm
          have hspl := spB_len y
          rw [hys] at HO6 hok hspl
          rw [hys]
          have HYS := Lib.hid hys
          clear ho hb C5 f0 f1 f2 f3 f4 hys hyin hytm x2
          go_upto_region 12 with fail
          have hwt := HB6.out.size
          have HX7 := Lib.hid (Row.new W6 49 #[.slice A5 ys.length c5, .int .i64 y.term.kind, .int .i64 0, .int .i64 y.term.to, .int .i64 y.term.el])
          have hb7 : Below W6.heap.size W6 (W6.alloc (.cells #[.slice A5 ys.length c5, .int .i64 y.term.kind, .int .i64 0, .int .i64 y.term.to, .int .i64 y.term.el] 49)) := (Below.refl _ _).alloc (Nat.le_refl _) _
          have ho7 := (Mods.of_below (S := No) hb7).ownS HO6.out (fun _ _ h => h)
          have HO7 := Lib.hid ho7
          have HB7 := Lib.hid (HB6.out.trans (hb7.mono HB6.out.size))
          clear hb7 ho7 HO6 HB6
          generalize (W6.alloc (.cells #[.slice A5 ys.length c5, .int .i64 y.term.kind, .int .i64 0, .int .i64 y.term.to, .int .i64 y.term.el] 49)) = W7 at *
          generalize W6.heap.size = tb at *
          have q6 := (HC2.out.next HB7.out).xc.k6
          have t0 := HX7.out.k0; have t1 := HX7.out.k1; have t2 := HX7.out.k2; have t3 := HX7.out.k3; have t4 := HX7.out.k4
          obtain ⟨vs, hne⟩ := HC2.out.n2.ne
          have HNE := Lib.hid hne
          have hown := nc_outer (w := W2) hne HB7.out (.cells #[.slice A5 ys.length c5, .int .i64 y.term.kind, .int .i64 0, .int .i64 y.term.to, .int .i64 y.term.el] 49) HC2.out.hi
          have hnew := sees_new W7 #[.slice A5 ys.length c5, .int .i64 y.term.kind, .int .i64 0, .int .i64 y.term.to, .int .i64 y.term.el] 49
          have hbz : W2.heap.size ≤ (W7.alloc (.cells #[.slice A5 ys.length c5, .int .i64 y.term.kind, .int .i64 0, .int .i64 y.term.to, .int .i64 y.term.el] 49)).heap.size := Nat.le_trans hzz (Nat.le_trans HB7.out.size (by simp))
          have hbz1 : W2.heap.size ≤ W7.heap.size + 1 := Nat.le_trans hzz (Nat.le_trans HB7.out.size (by simp))
          have htb : tb ≠ cb := fun e => by
            have h1 := (HC2.out.next HB7.out).xc
            have h2 := HX7.out
            rw [e] at h2
            exact h1.tyb.ne h2.tyb (by decide)
          have HKX : Hid (∀ k, (Value.slice A2 i c2).ownBlock = some k → k < wr.heap.size) := fun k hk => (ownS_lt hne.outer k hk).2
          clear hne
          go_wp2_with (at_builtin; refine wpList_append_any _ rfl (.tmp 48) (.tmp 50) 27 rfl W2.heap.size 49 i0 _ 5 56 Try.underlying27 hi0 hz0 hz1 hz2 rfl (by decide) _ _ _ rfl hown (W7.heap.size + 1) _ 1 1 _ rfl hnew rfl (moc_one (spB y) A5 _ c5) ?c1 ?c2 ?c3 ?_)
          case c1 => unfold maxLen; omega
          case c2 => omega
          (try (case c3 => first | exact hbz | exact hbz1))
          intro v2 W9 ho2 hg2 hb2
          obtain ⟨A2', c2', rfl, _, _⟩ := ownS_slice ho2
          obtain ⟨hct, hxc⟩ := CT.push2 (n := r.toNat) HC2.out HB7.out HNE.out (x := spB y) (u := .slice A5 ys.length c5) (by rw [HYS.out]; exact HO7.out) (.cells #[.slice A5 ys.length c5, .int .i64 y.term.kind, .int .i64 0, .int .i64 y.term.to, .int .i64 y.term.el] 49) ho2 hg2
          have hG : Mods (fun k => (Value.slice A2 i c2).ownBlock = some k) W7 W9 := ((Mods.refl _ _).alloc _).grown hg2 fun k hk => .inl hk
          have ho9 := hG.ownS HO7.out (fun k hk e => by have h1 := (ownS_lt HO7.out k hk).1; have h2 := HKX.out k e; omega)
          have hP : Mods (Is cb) W9 (W9.setCell ⟨cb, 6, none⟩ (.slice A2' (i + 1) c2')) := (Mods.refl (Is cb) W9).put 6 _
          have HO9 := Lib.hid (own_tyk ho9 (put_ty hxc hP) (by decide))
          have HC := Lib.hid hct
          have p6 := hxc.k6
          have g6 := hxc.frozen 6
          have htr : Row W9 tb 49 #[.slice A5 ys.length c5, .int .i64 y.term.kind, .int .i64 0, .int .i64 y.term.to, .int .i64 y.term.el] := HX7.out.mods hG (fun e => by have := HKX.out tb e; omega)
          have HTR := Lib.hid (htr.ty (put_ty hxc hP) (by decide))
          clear hct hxc ho2 hg2 hb2 hown hnew hbz hbz1 q6 t0 t1 t2 t3 t4 HNE HX7 HO7 HB7 HC2 HKX hG ho9 hP htr
          go_upto_region 13 with fail
          clear p6 g6
          generalize (W9.setCell ⟨cb, 6, none⟩ (.slice A2' (i + 1) c2')) = W10 at *
          have C7 := Lib.hid (rmoves_any _ A5 ys c5 W10 (MisAt.of_own HO9.out hok) (by omega))
          obtain ⟨q, hq⟩ : ∃ q, mvs ys = q := ⟨_, rfl⟩
          rw [hq] at C7
          have hql : q ≤ 10000 := by have := mvs_le ys; omega
          have HQ := Lib.hid hq
          clear hq
          have t0 := HTR.out.k0
          go_wp2_with fail
          refine C7.out.mono ?_
          rintro e W11 ⟨rfl, rfl⟩
          have HMX2 : Hid (mxB (bs.take (i + 1)) = max mx q) := by
            show _ = _
            rw [HT.out, mxB_snoc, HMX.out, HYS.out, HQ.out]
          clear t0 C7 HMX HO9 hok HTR
          go_upto_region 14 with fail
          have hmxq : (if mx < q then (q : Int) else (mx : Int)) = ((max mx q : Nat) : Int) := by split <;> omega
          rw [hmxq]
          obtain ⟨m2, hm2⟩ : ∃ z, max mx q = z := ⟨_, rfl⟩
          rw [hm2] at HMX2 ⊢
          have hm2l : m2 ≤ 10000 := by omega
          clear hmxq hm2 hmx hql HQ
          go_upto_region 16 with fail
          go_loopg [9, 10] n (fun g2 v9 v10 wr2 => ∃ j : Nat, j + g2 = n ∧ v10 = .int .i64 (j : Int) ∧ Hid (PL W10 v9 (invN j) wr2))
          case atStart => exact ⟨0, by omega, by go_num, PL.nil W10⟩
          case round =>
            obtain ⟨j, hgj, rfl, HP⟩ := hrel
            have x1 := (HC.out.next HP.out.blw).x1.k1
            by_cases hj : j < n
            · have hkz2 : (j : Int) < r := by have := HRI.out; omega
              have hw1 := (twice22 (v := (j : Int)) (by omega)).1; have hw2 := (twice22 (v := (j : Int)) (by omega)).2
              have HE := Lib.hid (show invN (j + 1) = invN j ++ [((j : Int), 2 * (j : Int) + 1)] by unfold invN; rw [List.range_succ, List.map_append]; rfl)
              have HJL := Lib.hid (invN_len j)
              generalize invN j = lj at *
              go_upto_region 18 with fail
              have hown := (HP.out.alloc (prObj (j : Int) (2 * (j : Int) + 1))).own
              have hnew := new_sees wr (j : Int) (2 * (j : Int) + 1)
              go_wp2_with (at_builtin; refine wpList_append_any _ rfl (.tmp 65) (.tmp 71) 63 rfl _ 66 i5 (.agg #[.int .i64 0, .int .i64 0]) 2 16 Try.underlying63 hi5 hv0 hv1 hv2 rfl (by decide) _ _ _ rfl hown (wr.heap.size + 1) _ 1 1 _ rfl hnew rfl (prs_one _) ?p1 ?p2 ?p3 ?_)
              case p1 => have := HJL.out; unfold maxLen; omega
              case p2 => have := HJL.out; omega
              case p3 => have := HP.out.blw.size; simp; omega
              intro v6x W6x ho2 hg2 hb2
              have HP6 := Lib.hid (HP.out.push (j : Int) (2 * (j : Int) + 1) (by first | rfl | simp) ho2 hg2)
              clear ho2 hg2 hb2 hown hnew
              clear HP x1 hw1 hw2
              go_wp2
              go_roundg (n - (j + 1))
              case measure => omega
              case rel => exact ⟨j + 1, by omega, by go_num, by show PL _ _ _ _; rw [HE.out]; exact HP6.out⟩
            · obtain rfl : j = n := by omega
              have hkz2 : ¬ (j : Int) < r := by have := HRI.out; omega
              obtain ⟨A6, c6, rfl, _, _⟩ := HP.out.slice
              go_upto_region 19 with fail
              clear x1 hkz2
              obtain ⟨lv, hlv⟩ : ∃ z, invN j = z := ⟨_, rfl⟩
              rw [hlv] at HP HIL ⊢
              have HLV := Lib.hid hlv
              clear hlv
              have q7 := (HC.out.next HP.out.blw).xc.k7
              obtain ⟨vs, hne⟩ := HC.out.n3.ne
              have HNE := Lib.hid hne
              have hown := nc_outer (w := W2) hne HP.out.blw (.cells #[.slice A6 lv.length c6] 63) HC.out.hj
              have hnew := sees_new wr #[.slice A6 lv.length c6] 63
              have hbz : W2.heap.size ≤ (wr.alloc (.cells #[.slice A6 lv.length c6] 63)).heap.size := Nat.le_trans HC.out.n1.blw.size (Nat.le_trans HP.out.blw.size (by simp))
              have hbz1 : W2.heap.size ≤ wr.heap.size + 1 := Nat.le_trans HC.out.n1.blw.size (Nat.le_trans HP.out.blw.size (by simp))
              clear hne
              go_wp2_with (at_builtin; refine wpList_append_any _ rfl (.tmp 74) (.tmp 76) 30 rfl W2.heap.size 63 i3 _ 1 24 Try.underlying30 hi3 hy0 hy1 hy2 rfl (by decide) _ _ _ rfl hown (wr.heap.size + 1) _ 1 1 [.slice A6 lv.length c6] rfl hnew rfl (poc_one lv A6 _ c6) ?d1 ?d2 ?d3 ?_)
              case d1 => unfold maxLen; omega
              case d2 => omega
              (try (case d3 => first | exact hbz | exact hbz1))
              intro v2 W12 ho2 hg2 hb2
              obtain ⟨A3', c3', rfl, _, _⟩ := ownS_slice ho2
              obtain ⟨hct, hxc, _⟩ := CT.push3 (n := r.toNat) HC.out HP.out.blw HNE.out HP.out.own (.cells #[.slice A6 lv.length c6] 63) ho2 hg2
              have HCT := Lib.hid hct
              have p7 := hxc.k7
              have g7 := hxc.frozen 7
              clear hct hxc ho2 hg2 hb2 hown hnew hbz hbz1 q7 HNE HC HP
              go_upto_region 10 with fail
              clear p7 g7
              generalize (W12.setCell ⟨cb, 7, none⟩ (.slice A3' (i + 1) c3')) = W13 at *
              go_wp2
              go_roundg (bs.length - (i + 1))
              case measure => omega
              case rel => exact ⟨i + 1, m2, _, _, _, _, by omega, by go_num, by go_num, by omega, HMX2.out, by show CT _ _ _ _ _ _ _ _ _ _ _ _ _ _ _ _ _ _ _; rw [HT.out, List.map_append, List.map_append, HL2.out, HL3.out]; show CT _ _ _ _ _ _ _ _ _ _ _ _ _ _ _ _ _ (l3 ++ [invN j]) _; rw [HLV.out]; exact HCT.out⟩
        · have hkz : ¬ (i : Int) < (bs.length : Int) := by omega
          have hk2 : bs.take i = bs := List.take_of_length_le (by omega)
          rw [hk2] at HC2 HMX
          have HIX := Lib.hid (show i = bs.length by omega)
          have hmc := spBs_len bs
          obtain ⟨vs, hne⟩ := HC2.out.n2.ne
          obtain ⟨Am, cm, em, hm1, hm2, hmb⟩ := nest_mblks hne (fun x hx => by
            obtain ⟨b, hb, rfl⟩ := List.mem_map.1 hx
            exact sp_locok (HI22.out b hb).1 (HI22.out b hb).2)
          injection em with em1 em2 em3
          subst em1 em3
          have C9 := Lib.hid (rmcode_any _ A2 (bs.map spB) c2 a 2 r wr hmb (Nat.le_refl _) (by rw [List.length_map]; omega) (by omega))
          obtain ⟨mc, hmcE⟩ : ∃ z, mcodeN (bs.map spB) = z := ⟨_, rfl⟩
          rw [hmcE] at C9 hmc
          rw [← em2] at C9
          have hle9 : decide ((1048576 : Int) < (mc : Int)) = false := decide_eq_false (by omega)
          clear hmb hne hm1 hm2 hmcE em2 hk2
          obtain ⟨l2, hl2⟩ : ∃ z, bs.map spB = z := ⟨_, rfl⟩
          obtain ⟨l3, hl3⟩ : ∃ z, (bs.map fun _ => invN n) = z := ⟨_, rfl⟩
          rw [hl2, hl3] at HC2
          have HL2 := Lib.hid hl2
          have HL3 := Lib.hid hl3
          clear hl2 hl3
          have k3 := HC2.out.xc.k3; have k4 := HC2.out.xc.k4; have k5 := HC2.out.xc.k5; have k6 := HC2.out.xc.k6
          go_upto_region 20 with fail
          go_wp2_with fail
          refine C9.out.mono ?_
          rintro e W5 ⟨rfl, hb⟩
          have HC := Lib.hid (HC2.out.next hb)
          clear hb HC2 C9 k3 k4 k5 k6
          have y0 := HC.out.x2.k0; have y1 := HC.out.x2.k1; have y2 := HC.out.x2.k2; have y3 := HC.out.x2.k3; have y4 := HC.out.x2.k4; have y5 := HC.out.x2.k5; have y6 := HC.out.x2.k6; have y7 := HC.out.x2.k7
          have g0 := HC.out.x2.frozen 0; have g1 := HC.out.x2.frozen 1; have g2 := HC.out.x2.frozen 2; have g3 := HC.out.x2.frozen 3; have g4 := HC.out.x2.frozen 4; have g5 := HC.out.x2.frozen 5; have g6 := HC.out.x2.frozen 6; have g7 := HC.out.x2.frozen 7
          by_cases h64 : 64 < mx
          · have hgt : (64 : Int) < (mx : Int) := by omega
            have hsr := HSR.out
            rw [if_pos (by rw [mxB_long, HMX.out]; exact decide_eq_true h64)] at hsr
            obtain ⟨z1, z2⟩ := cert_bad22 hwb HC.out.x2 (HB2.out.trans (HC.out.n1.blw.mono HB2.out.size))
            have Z1 := Lib.hid z1
            have Z2 := Lib.hid z2
            clear z1 z2 hkz
            go_wp2
            refine bodyPost_ret (v := .tuple #[.agg #[.int .i64 0, .int .i64 0, .slice none 0 0, .int .i64 0, .int .i64 0, .int .i64 0, .slice none 0 0, .slice none 0 0], .int .i64 15]) ?_ rfl ?_
            · exact results_row_tmp22 rfl _ _ b2 32 #[.int .i64 0, .int .i64 0, .slice none 0 0, .int .i64 0, .int .i64 0, .int .i64 0, .slice none 0 0, .slice none 0 0] (0, 0) _ (by rfl) rfl Z1.out Try.underlying32 rfl (by kernel_rfl)
            · rw [hsr]
              exact SaP.bad Z2.out 15
          · have hgt : ¬ (64 : Int) < (mx : Int) := by omega
            have hsr := HSR.out
            rw [if_neg (by rw [mxB_long, HMX.out, decide_eq_true_iff]; exact h64)] at hsr
            have HSR2 := Lib.hid hsr
            clear hsr hkz
            have k0 := HC.out.xc.k0; have k1 := HC.out.xc.k1; have k2 := HC.out.xc.k2; have k3 := HC.out.xc.k3; have k4 := HC.out.xc.k4; have k5 := HC.out.xc.k5; have k6 := HC.out.xc.k6; have k7 := HC.out.xc.k7
            go_wp2
            refine bodyPost_ret (v := .tuple #[.agg #[.int .i64 a, .int .i64 r, .slice A1 bs.length c1, .int .i64 a, .int .i64 2, .int .i64 r, .slice A2 i c2, .slice A3 i c3], .int .i64 0]) ?_ rfl ?_
            · exact results_row_tmp22 rfl _ _ b2 32 #[.int .i64 a, .int .i64 r, .slice A1 bs.length c1, .int .i64 a, .int .i64 2, .int .i64 r, .slice A2 i c2, .slice A3 i c3] (0, 0) _ (by rfl) rfl (Row.put8s HC.out.x2 _ _ _ _ _ _ _ _) Try.underlying32 rfl (by kernel_rfl)
            · rw [HSR2.out]
              have hM := mods8s W5 b2 (.int .i64 a) (.int .i64 r) (.slice A1 bs.length c1) (.int .i64 a) (.int .i64 2) (.int .i64 r) (.slice A2 i c2) (.slice A3 i c3)
              have hT := put_ty HC.out.x2 hM
              have hB9 : Below w.heap.size w ((((((((W5.setCell ⟨b2, 0, none⟩ (.int .i64 a)).setCell ⟨b2, 1, none⟩ (.int .i64 r)).setCell ⟨b2, 2, none⟩ (.slice A1 bs.length c1)).setCell ⟨b2, 3, none⟩ (.int .i64 a)).setCell ⟨b2, 4, none⟩ (.int .i64 2)).setCell ⟨b2, 5, none⟩ (.int .i64 r)).setCell ⟨b2, 6, none⟩ (.slice A2 i c2)).setCell ⟨b2, 7, none⟩ (.slice A3 i c3)) := (HB2.out.trans (HC.out.n1.blw.mono HB2.out.size)).trans (hM.below (HB2.out.trans (HC.out.n1.blw.mono HB2.out.size)).size fun k hk => by unfold Is at hk; omega)
              have n1 := (HC.out.n1.base HB2.out).ty hT (by decide) (by decide) hB9
              have n2 := (HC.out.n2.base HB2.out).ty hT (by decide) (by decide) hB9
              have n3 := (HC.out.n3.base HB2.out).ty hT (by decide) (by decide) hB9
              have e2 : (bs.map spB).length = i := by rw [List.length_map, HIX.out]
              have e3 : (bs.map fun _ => invN r.toNat).length = i := by rw [List.length_map, HIX.out]
              refine ⟨A1, c1, A2, c2, A3, c3, ?_, n1, ?_, ?_⟩
              · show Ending.returned (.tuple #[.agg #[.int .i64 a, .int .i64 r, .slice A1 bs.length c1, .int .i64 a, .int .i64 2, .int .i64 r, .slice A2 i c2, .slice A3 i c3], .int .i64 0]) = .returned (.tuple #[.agg #[.int .i64 a, .int .i64 r, .slice A1 bs.length c1, .int .i64 a, .int .i64 2, .int .i64 r, .slice A2 (bs.map spB).length c2, .slice A3 (bs.map fun _ => invN r.toNat).length c3], .int .i64 0])
                rw [e2, e3]
              · show NC mshp w (.slice A2 (bs.map spB).length c2) (bs.map spB) _
                rw [e2, HL2.out]
                exact n2
              · show NC pshp w (.slice A3 (bs.map fun _ => invN r.toNat).length c3) (bs.map fun _ => invN r.toNat) _
                rw [e3, HRN.out, HL3.out]
                exact n3
      
  · have e1 : (er != 0) = true := by simp [hz]
    have hsr := HSR.out
    rw [if_pos hz] at hsr
    clear hz HSR
    obtain ⟨z1, z2⟩ := cert_bad22 hwb HY1.out HB1.out
    have Z1 := Lib.hid z1
    have Z2 := Lib.hid z2
    clear z1 z2
    have y0 := HY1.out.k0; have y1 := HY1.out.k1; have y2 := HY1.out.k2; have y3 := HY1.out.k3; have y4 := HY1.out.k4; have y5 := HY1.out.k5; have y6 := HY1.out.k6; have y7 := HY1.out.k7
    have g0 := HY1.out.frozen 0; have g1 := HY1.out.frozen 1; have g2 := HY1.out.frozen 2; have g3 := HY1.out.frozen 3; have g4 := HY1.out.frozen 4; have g5 := HY1.out.frozen 5; have g6 := HY1.out.frozen 6; have g7 := HY1.out.frozen 7
    go_wp2
    refine bodyPost_ret (v := .tuple #[.agg #[.int .i64 0, .int .i64 0, .slice none 0 0, .int .i64 0, .int .i64 0, .int .i64 0, .slice none 0 0, .slice none 0 0], .int .i64 er]) ?_ rfl ?_
    · exact results_row_tmp22 rfl _ _ b2 32 #[.int .i64 0, .int .i64 0, .slice none 0 0, .int .i64 0, .int .i64 0, .int .i64 0, .slice none 0 0, .slice none 0 0] (0, 0) _ (by rfl) rfl Z1.out Try.underlying32 rfl (by kernel_rfl)
    · rw [hsr]
      exact SaP.bad Z2.out er

end Go.Proofs.Ytcoehkphdfejjaa
