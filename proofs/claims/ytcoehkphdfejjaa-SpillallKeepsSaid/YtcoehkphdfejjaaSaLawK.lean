/-
  The walk of the statement that nothing is shared.
-/
import Derived.Test.YtcoehkphdfejjaaSaLawM
import Derived.Test.YtcoehkphdfejjaaSrcSpoil
namespace Go.Proofs.Ytcoehkphdfejjaa
open Go.RowKit Go.Deep
set_option linter.unusedVariables false
set_option linter.unusedSimpArgs false

/-- What lies while a certificate is stored into. -/
structure KE (wc : World) (cb : Nat) (rw : Array Value) (D1 : Option Addr) (nb m1 : Nat) (vs1 : List Value) (xs : List Blk) (D3 : Option Addr) (ni m3 : Nat) (vs3 : List Value) (ys : List (List Pr)) (W : World) : Prop where
  blw : Below wc.heap.size wc W
  n1 : NestV bshp W wc.heap.size (.slice D1 nb m1) vs1 xs
  n3 : NestV pshp W wc.heap.size (.slice D3 ni m3) vs3 ys
  row : Row W cb 32 rw
  l1 : xs.length = nb
  l3 : ys.length = ni

theorem prs_put22 : ∀ (l : List Pr) (k : Nat) (h : k < l.length) (z : Int), prs (l.set k (z, l[k].2)) = (prs l).set (k * 2) (.int .i64 z)
  | [], k, h, z => by simp at h
  | p :: r, 0, h, z => rfl
  | p :: r, k + 1, h, z => by
    have hk : k < r.length := by simpa using h
    have ih := prs_put22 r k hk z
    have e : (k + 1) * 2 = k * 2 + 1 + 1 := by omega
    rw [e]
    show [Value.int .i64 p.1, Value.int .i64 p.2] ++ prs (r.set k (z, r[k].2)) = _
    rw [ih]
    rfl

section
variable {wc W : World} {cb : Nat} {rw : Array Value} {D1 : Option Addr} {nb m1 : Nat} {vs1 : List Value} {xs : List Blk} {D3 : Option Addr} {ni m3 : Nat} {vs3 : List Value} {ys : List (List Pr)}

theorem KE.storeI (h : KE wc cb rw D1 nb m1 vs1 xs D3 ni m3 vs3 ys W) {i k g n c : Nat} (hi : i < xs.length) (hk : k < xs[i].code.length) (hvs : vs1[i]? = some (.slice (some ⟨g, 0, none⟩) n c)) :
    KE wc cb rw D1 nb m1 vs1 (xs.set i { xs[i] with code := xs[i].code.set k { xs[i].code[k] with op := 0 } }) D3 ni m3 vs3 ys (W.setCell ⟨g, k * 5, none⟩ (.int .i64 0)) := by
  obtain ⟨x, hx, hin⟩ := h.n1.get hvs
  have hg := ownS_lt hin g rfl
  have hm : Mods (Is g) W (W.setCell ⟨g, k * 5, none⟩ (.int .i64 0)) := (Mods.refl _ W).put _ _
  have hty : Mods (TyB W 62) W (W.setCell ⟨g, k * 5, none⟩ (.int .i64 0)) := hm.mono fun j hj => by
    have : j = g := hj
    rw [this]
    exact own_ty hin g rfl
  exact ⟨h.blw.setCell (p := ⟨g, k * 5, none⟩) hg.1 _, nest_store h.n1 hi hk hvs (j := 0) (by decide) rfl, h.n3.ty hty (by decide) (by decide), h.row.ty hty (by decide), by rw [List.length_set]; exact h.l1, h.l3⟩

theorem KE.storeP (h : KE wc cb rw D1 nb m1 vs1 xs D3 ni m3 vs3 ys W) {i k g n c : Nat} (hi : i < ys.length) (hk : k < ys[i].length) (hvs : vs3[i]? = some (.slice (some ⟨g, 0, none⟩) n c)) (z : Int) :
    KE wc cb rw D1 nb m1 vs1 xs D3 ni m3 vs3 (ys.set i (ys[i].set k (z, ys[i][k].2))) (W.setCell ⟨g, k * 2, none⟩ (.int .i64 z)) := by
  obtain ⟨x, hx, hin⟩ := h.n3.get hvs
  have hg := ownS_lt hin g rfl
  have hm : Mods (Is g) W (W.setCell ⟨g, k * 2, none⟩ (.int .i64 z)) := (Mods.refl _ W).put _ _
  have hty : Mods (TyB W 66) W (W.setCell ⟨g, k * 2, none⟩ (.int .i64 z)) := hm.mono fun j hj => by
    have : j = g := hj
    rw [this]
    exact own_ty hin g rfl
  exact ⟨h.blw.setCell (p := ⟨g, k * 2, none⟩) hg.1 _, h.n1.ty hty (by decide) (by decide), h.n3.put hvs (List.getElem?_eq_getElem hi) (x' := ys[i].set k (z, ys[i][k].2)) rfl (by show k * 2 < (prs ys[i]).length; rw [prs_length]; omega) _ (prs_put22 _ _ hk z) (by show (ys[i].set k _).length = ys[i].length; rw [List.length_set]) (fun _ => rfl), h.row.ty hty (by decide), h.l1, by rw [List.length_set]; exact h.l3⟩

/-- An element of the lists of pairs, in memory. -/
theorem KE.at3 (h : KE wc cb rw D1 nb m1 vs1 xs D3 ni m3 vs3 ys W) {i : Nat} (hi : i < ys.length) :
    ∃ g A c, D3 = some ⟨g, 0, none⟩ ∧ W.cell? ⟨g, i, none⟩ = some (.slice A ys[i].length c) ∧ vs3[i]? = some (.slice A ys[i].length c) ∧ W.ownsRow wc.heap.size 66 2 (.slice A ys[i].length c) ys[i].length (prs ys[i]) := by
  obtain ⟨u, hu, hin⟩ := h.n3.got hi
  obtain ⟨A, c, rfl, _, _⟩ := ownS_slice hin
  have ho := h.n3.outer
  rw [pp_flat _ _ h.n3.len, h.n3.len, h.l3] at ho
  rcases ho.2 with ⟨e, h0⟩ | ⟨g, cp, cur, e, hg, hh, h1, h2, h3, h4⟩
  · have := h.l3; omega
  · injection e with e1 e2 e3
    subst e1
    refine ⟨g, A, c, rfl, ?_, hu, hin⟩
    have hsee := Sees.of_own (w := W) (A := some ⟨g, 0, none⟩) (n := ni) (c := m3) ho
    obtain ⟨b, o, e, _, hc⟩ := hsee (by intro e9; subst e9; simp at hu)
    injection e with e
    injection e with e1 e2
    subst e1; subst e2
    have := hc i _ hu
    rwa [Nat.zero_add] at this

end

set_option maxRecDepth 100000 in
set_option maxHeartbeats 16000000 in
theorem SpillallKeeps_walk (a0 : Array Value) (w : World) (w0 : IsFn w a0) :
    Calls Try.prog 5 #[.agg a0] w fun e w' => e = .returned (.bool true) ∧ Below w.heap.size w w' := by
  have mixed : Try.prog.follows .mixedOrders = true := by kernel_rfl
  obtain ⟨a, r, A, bs, c, rfl, _, _, hlc, hcm, hbs, hwf⟩ := w0
  have HZ : Hid (FZ w a r A bs c (w.alloc (.cells #[.int .i64 a, .int .i64 r, .slice A bs.length c] 24))) := FZ.start hbs
  have hml : bs.length ≤ maxLen := Nat.le_trans hlc hcm
  clear hbs hwf hlc hcm
  go_enter Try.func5, Try.ntmps5
  go_upto_region 1 with fail
  generalize (w.alloc (.cells #[.int .i64 a, .int .i64 r, .slice A bs.length c] 24)) = W0 at *
  obtain ⟨xb, hxb⟩ : ∃ z, w.heap.size = z := ⟨_, rfl⟩
  rw [hxb]
  go_wp2_with fail
  refine (awake22_any _).mono ?_
  rintro e W1 ⟨rfl, hb⟩
  have HZ1 := Lib.hid (HZ.out.next hb)
  clear hb HZ
  have x0 := HZ1.out.row.k0; have x1 := HZ1.out.row.k1; have x2 := HZ1.out.row.k2
  rw [hxb] at x0 x1 x2
  have C1 := Lib.hid (rfew_any _ A bs c a r W1 HZ1.out.at_ (Nat.le_refl _) hml)
  go_wp2_with fail
  refine C1.out.mono ?_
  rintro e W2 ⟨⟨b, rfl, hF⟩, hb⟩
  have HZ2 := Lib.hid (HZ1.out.next hb)
  clear hb HZ1 C1 x0 x1 x2
  cases b
  · go_wp2_with fail
    refine (awake22_any _).mono ?_
    rintro e W3 ⟨rfl, hb⟩
    have HZ3 := Lib.hid (HZ2.out.next hb)
    clear hb HZ2
    go_wp2
    go_ret
    exact ⟨rfl, HZ3.out.blw⟩
  have hf := hF rfl
  obtain ⟨f1, f2, f3⟩ := id hf
  have HF := Lib.hid hf
  have HFW := Lib.hid (spR_few (a := a) hf)
  have HOK := Lib.hid (spR_ok (a := a) (bs := bs) (show r ≤ 1000000 by omega))
  clear hF hf
  have x0 := HZ2.out.row.k0; have x1 := HZ2.out.row.k1; have x2 := HZ2.out.row.k2
  rw [hxb] at x0 x1 x2
  have C2 := Lib.hid (rcopy_nc A bs c a r W2 HZ2.out.at_ (by omega) (by omega))
  go_upto_region 3 with fail
  go_wp2_with fail
  refine C2.out.mono ?_
  rintro e W3 ⟨Ao, co, rfl, hn⟩
  obtain ⟨⟨vo, hno⟩, hbo⟩ := hn
  obtain ⟨Ay, cy, ey, _, _, hos⟩ := nest_blks hno
  injection ey with ey1 _ ey3
  subst ey1 ey3
  have hb4 : Below W3.heap.size W3 (W3.alloc (.cells #[.int .i64 a, .int .i64 r, .slice Ao bs.length co] 24)) := (Below.refl _ _).alloc (Nat.le_refl _) _
  have HZ4 := Lib.hid ((HZ2.out.next hbo).next hb4)
  have HO4 := Lib.hid (Row.new W3 24 #[.int .i64 a, .int .i64 r, .slice Ao bs.length co])
  have HS4 := Lib.hid ((hos.below hb4).more hb4.size)
  clear hno hbo hos hb4 HZ2 C2 x0 x1 x2
  go_upto_region 4 with fail
  generalize (W3.alloc (.cells #[.int .i64 a, .int .i64 r, .slice Ao bs.length co] 24)) = Wc at *
  generalize W3.heap.size = ob at *
  have C2 : Hid (∀ W, Below Wc.heap.size Wc W → Calls Try.prog 8 #[.agg #[.int .i64 a, .int .i64 r, .slice Ao bs.length co]] W (SaP W (spR a r bs))) := fun W h => cert22 Ao bs co a r W ((HS4.out.below h).more h.size) HF.out
  have C3 : Hid (∀ W, FZ w a r A bs c W → Calls Try.prog 9 #[.agg #[.int .i64 a, .int .i64 r, .slice A bs.length c]] W (SaP W (spR a r bs))) := fun W h => rcert22 A bs c a r W h.at_ HF.out
  have C7 : Hid (∀ W, Below Wc.heap.size Wc W → FZ w a r A bs c W → Calls Try.prog 20 #[.agg #[.int .i64 a, .int .i64 r, .slice Ao bs.length co], .agg #[.int .i64 a, .int .i64 r, .slice A bs.length c]] W fun e w' => e = .returned (.bool true) ∧ Below W.heap.size W w') := fun W h hz => rsame7_all _ Ao A bs bs co c a r a r W ((HS4.out.below h).more h.size) hz.at_ (Nat.le_refl _) (by omega) (by omega) (by omega) (by omega) true (by simp)
  generalize spR a r bs = q at *
  obtain ⟨qc, qe⟩ := q
  dsimp only at HFW HOK
  have o0 := HO4.out.k0; have o1 := HO4.out.k1; have o2 := HO4.out.k2
  go_wp2_with fail
  refine (C2.out _ (Below.refl _ _)).mono ?_
  rintro e W5 ⟨A1, c1, A2, c2, A3, c3, rfl, n1, n2, n3⟩
  clear o0 o1 o2
  obtain ⟨⟨vs1, m1⟩, hbw⟩ := n1
  obtain ⟨⟨vs3, m3⟩, _⟩ := n3
  have hb4 : Below W5.heap.size W5 (W5.alloc (.cells #[.int .i64 qc.sa, .int .i64 qc.sr, .slice A1 qc.bs.length c1, .int .i64 qc.ta, .int .i64 qc.tr, .int .i64 qc.ts, .slice A2 qc.ms.length c2, .slice A3 qc.inv.length c3] 32)) := (Below.refl _ _).alloc (Nat.le_refl _) _
  have HK6 : Hid (KE Wc W5.heap.size #[.int .i64 qc.sa, .int .i64 qc.sr, .slice A1 qc.bs.length c1, .int .i64 qc.ta, .int .i64 qc.tr, .int .i64 qc.ts, .slice A2 qc.ms.length c2, .slice A3 qc.inv.length c3] A1 qc.bs.length c1 vs1 qc.bs A3 qc.inv.length c3 vs3 qc.inv (W5.alloc (.cells #[.int .i64 qc.sa, .int .i64 qc.sr, .slice A1 qc.bs.length c1, .int .i64 qc.ta, .int .i64 qc.tr, .int .i64 qc.ts, .slice A2 qc.ms.length c2, .slice A3 qc.inv.length c3] 32))) := ⟨hbw.trans (hb4.mono hbw.size), m1.below hb4, m3.below hb4, Row.new _ _ _, rfl, rfl⟩
  clear hb4 hbw m1 m3 n2
  go_upto_region 6 with fail
  generalize (W5.alloc (.cells #[.int .i64 qc.sa, .int .i64 qc.sr, .slice A1 qc.bs.length c1, .int .i64 qc.ta, .int .i64 qc.tr, .int .i64 qc.ts, .slice A2 qc.ms.length c2, .slice A3 qc.inv.length c3] 32)) = W6 at *
  generalize W5.heap.size = cb at *
  obtain ⟨nb, hnb⟩ : ∃ z, qc.bs.length = z := ⟨_, rfl⟩
  obtain ⟨ni, hni⟩ : ∃ z, qc.inv.length = z := ⟨_, rfl⟩
  have hnbl : nb ≤ 1000000 := by have := HFW.out.1.1; omega
  have hnil : ni ≤ 1000000 := by have := HFW.out.2.2; omega
  rw [hnb, hni] at HK6 ⊢
  have HNB := Lib.hid hnb
  have HNI := Lib.hid hni
  clear hnb hni
  go_loopg [6] nb (fun g v6 wr => ∃ (i : Nat) (xs : List Blk), i + g = nb ∧ v6 = .int .i64 (i : Int) ∧ Hid (KE Wc cb #[.int .i64 qc.sa, .int .i64 qc.sr, .slice A1 nb c1, .int .i64 qc.ta, .int .i64 qc.tr, .int .i64 qc.ts, .slice A2 qc.ms.length c2, .slice A3 ni c3] A1 nb c1 vs1 xs A3 ni c3 vs3 qc.inv wr))
  case atStart => exact ⟨0, qc.bs, by omega, by go_num, HK6.out⟩
  case round =>
    clear HK6
    obtain ⟨i, xs, hig, rfl, HK⟩ := hrel
    have p2 := HK.out.row.k2
    by_cases hlt0 : i < nb
    · have hlt : (i : Int) < (nb : Int) := by omega
      have hi : i < xs.length := by rw [HK.out.l1]; exact hlt0
      obtain ⟨M, hM⟩ : ∃ M, xs[i].code.length = M := ⟨_, rfl⟩
      have HMI : Hid (∃ h : i < xs.length, xs[i].code.length = M) := ⟨hi, hM⟩
      have hMM : M ≤ 9223372036854775807 := by
        obtain ⟨_, _, _, _, _, _, _, _, _, hown⟩ := nest_at HK.out.n1 hi
        obtain ⟨_, _, _, h1, h2⟩ := ownS_slice hown
        unfold maxLen at h2
        omega
      clear hi hM
      go_upto_region 9 with fail
      clear p2
      obtain ⟨wo, hwo⟩ : ∃ z, z = wr := ⟨_, rfl⟩
      subst hwo
      go_loopg [7] M (fun g2 v7 wx => ∃ (k : Nat) (zs : List Blk), k + g2 = M ∧ v7 = .int .i64 (k : Int) ∧ Hid (∃ h : i < zs.length, zs[i].code.length = M) ∧ Hid (KE Wc cb #[.int .i64 qc.sa, .int .i64 qc.sr, .slice A1 nb c1, .int .i64 qc.ta, .int .i64 qc.tr, .int .i64 qc.ts, .slice A2 qc.ms.length c2, .slice A3 ni c3] A1 nb c1 vs1 zs A3 ni c3 vs3 qc.inv wx))
      case atStart => exact ⟨0, xs, by omega, by go_num, HMI.out, HK.out⟩
      case round =>
        clear HK HMI
        obtain ⟨k, zs, hkg, rfl, HMI, HK⟩ := hrel
        obtain ⟨hi, hMe⟩ := HMI.out
        obtain ⟨b, o, cap, A9, c9, hD, hbl, hcell, hvs, hown⟩ := nest_at HK.out.n1 hi
        rw [HK.out.l1] at hD
        injection hD with hD1 hD2 hD3
        subst hD1 hD3
        have p2 := HK.out.row.k2
        rw [hMe] at hcell hvs hown
        by_cases hkM : k < M
        · have hk : (k : Int) < (M : Int) := by omega
          obtain ⟨gb, rfl, _, _, hfr⟩ := own_block hown (by omega)
          have hkc : k < zs[i].code.length := by rw [hMe]; exact hkM
          have HST := Lib.hid (HK.out.storeI hi hkc hvs)
          have hzc : ∃ y, wr.cell? ⟨gb, k * 5, none⟩ = some (.int .i64 y) := by
            have hat := insAt_sees (sees_own hown)
            obtain ⟨b9, o9, e9, _, hx9⟩ := hat.at_ hkc
            injection e9 with e9
            injection e9 with e1 e2
            subst e1; subst e2
            have := hx9.c0
            rw [Nat.zero_add] at this
            exact ⟨_, this⟩
          obtain ⟨y, hzc⟩ := hzc
          have hfr0 := hfr (k * 5)
          have HM2 : Hid (∃ h : i < (zs.set i { zs[i] with code := zs[i].code.set k { zs[i].code[k] with op := 0 } }).length, (zs.set i { zs[i] with code := zs[i].code.set k { zs[i].code[k] with op := 0 } })[i].code.length = M) := ⟨by rw [List.length_set]; exact hi, by simp [hMe]⟩
          generalize zs.set i { zs[i] with code := zs[i].code.set k { zs[i].code[k] with op := 0 } } = zs3 at *
          clear hkc hMe hvs hown HMI HK hfr
          have hlt : (i : Int) < (nb : Int) := by omega
          go_wp2_with fail
          go_roundg (M - (k + 1))
          case measure => omega
          case rel => exact ⟨k + 1, zs3, by omega, by go_num, HM2.out, HST.out⟩
        · have hk : ¬ (k : Int) < (M : Int) := by omega
          clear hMe hvs hown
          have hlt : (i : Int) < (nb : Int) := by omega
          go_wp2_with fail
          go_roundg (nb - (i + 1))
          case measure => omega
          case rel => exact ⟨i + 1, zs, by omega, by go_num, HK.out⟩
    · have hlt : ¬ (i : Int) < (nb : Int) := by omega
      go_upto_region 13 with fail
      clear p2
      obtain ⟨w6, hw6⟩ : ∃ z, z = wr := ⟨_, rfl⟩
      subst hw6
      go_loopg [8] ni (fun g v8 wy => ∃ (i : Nat) (ys : List (List Pr)), i + g = ni ∧ v8 = .int .i64 (i : Int) ∧ Hid (KE Wc cb #[.int .i64 qc.sa, .int .i64 qc.sr, .slice A1 nb c1, .int .i64 qc.ta, .int .i64 qc.tr, .int .i64 qc.ts, .slice A2 qc.ms.length c2, .slice A3 ni c3] A1 nb c1 vs1 xs A3 ni c3 vs3 ys wy))
      case atStart => exact ⟨0, qc.inv, by omega, by go_num, HK.out⟩
      case round =>
        clear HK
        obtain ⟨i2, ys, hig2, rfl, HK⟩ := hrel
        have p7 := HK.out.row.k7
        by_cases hlt2 : i2 < ni
        · have hltz : (i2 : Int) < (ni : Int) := by omega
          have hi : i2 < ys.length := by rw [HK.out.l3]; exact hlt2
          obtain ⟨M, hM⟩ : ∃ M, ys[i2].length = M := ⟨_, rfl⟩
          have HMI : Hid (∃ h : i2 < ys.length, ys[i2].length = M) := ⟨hi, hM⟩
          have hMM : M ≤ 9223372036854775807 := by
            obtain ⟨_, _, _, _, _, _, hown⟩ := HK.out.at3 hi
            obtain ⟨_, _, _, h1, h2⟩ := ownS_slice hown
            unfold maxLen at h2
            omega
          clear hi hM
          go_upto_region 16 with fail
          clear p7
          obtain ⟨wo, hwo⟩ : ∃ z, z = wr := ⟨_, rfl⟩
          subst hwo
          go_loopg [9] M (fun g2 v9 wx => ∃ (k : Nat) (zs : List (List Pr)), k + g2 = M ∧ v9 = .int .i64 (k : Int) ∧ Hid (∃ h : i2 < zs.length, zs[i2].length = M) ∧ Hid (KE Wc cb #[.int .i64 qc.sa, .int .i64 qc.sr, .slice A1 nb c1, .int .i64 qc.ta, .int .i64 qc.tr, .int .i64 qc.ts, .slice A2 qc.ms.length c2, .slice A3 ni c3] A1 nb c1 vs1 xs A3 ni c3 vs3 zs wx))
          case atStart => exact ⟨0, ys, by omega, by go_num, HMI.out, HK.out⟩
          case round =>
            clear HK HMI
            obtain ⟨k, zs, hkg, rfl, HMI, HK⟩ := hrel
            obtain ⟨hi, hMe⟩ := HMI.out
            obtain ⟨b, A9, c9, rfl, hcell, hvs, hown⟩ := HK.out.at3 hi
            have p7 := HK.out.row.k7
            rw [hMe] at hcell hvs hown
            by_cases hkM : k < M
            · have hk : (k : Int) < (M : Int) := by omega
              obtain ⟨gb, rfl, _, _, hfr⟩ := own_block hown (by omega)
              have hkc : k < zs[i2].length := by rw [hMe]; exact hkM
              have HST := Lib.hid (HK.out.storeP hi hkc hvs (-1))
              have hzc : ∃ y, wr.cell? ⟨gb, k * 2, none⟩ = some (.int .i64 y) := by
                have hsee := sees_own hown
                obtain ⟨b', o', e, _, hc⟩ := hsee (by intro e9; have := prs_length zs[i2]; rw [e9] at this; simp at this; omega)
                injection e with e
                injection e with e1 e2
                subst e1; subst e2
                have := hc (k * 2) _ (prs_get hkc).1
                rw [Nat.zero_add] at this
                exact ⟨_, this⟩
              obtain ⟨y, hzc⟩ := hzc
              have hfr0 := hfr (k * 2)
              have HM2 : Hid (∃ h : i2 < (zs.set i2 (zs[i2].set k (-1, zs[i2][k].2))).length, (zs.set i2 (zs[i2].set k (-1, zs[i2][k].2)))[i2].length = M) := ⟨by rw [List.length_set]; exact hi, by simp [hMe]⟩
              generalize zs.set i2 (zs[i2].set k (-1, zs[i2][k].2)) = zs3 at *
              clear hkc hMe hvs hown HMI HK hfr
              have hltz : (i2 : Int) < (ni : Int) := by omega
              go_wp2_with fail
              go_roundg (M - (k + 1))
              case measure => omega
              case rel => exact ⟨k + 1, zs3, by omega, by go_num, HM2.out, HST.out⟩
            · have hk : ¬ (k : Int) < (M : Int) := by omega
              clear hMe hvs hown
              have hltz : (i2 : Int) < (ni : Int) := by omega
              go_wp2_with fail
              go_roundg (ni - (i2 + 1))
              case measure => omega
              case rel => exact ⟨i2 + 1, zs, by omega, by go_num, HK.out⟩
        · have hltz : ¬ (i2 : Int) < (ni : Int) := by omega
          have hbw := HK.out.blw
          have HBW := Lib.hid hbw
          have HZ7 := Lib.hid (HZ4.out.next hbw)
          have HO7 := Lib.hid (HO4.out.below hbw HO4.out.lt)
          clear hbw HK
          have o0 := HO7.out.k0; have o1 := HO7.out.k1; have o2 := HO7.out.k2
          go_upto_region 19 with fail
          clear p7
          go_wp2_with fail
          refine (C2.out _ HBW.out).mono ?_
          rintro e W8 ⟨B1, k1, B2, k2, B3, k3, rfl, n1, n2, n3⟩
          have HS8 := Lib.hid (SaP.see n1 n2 n3 HOK.out)
          have hbb := n1.blw
          clear n1 n2 n3 o0 o1 o2
          have hb4 : Below W8.heap.size W8 (W8.alloc (.cells #[.int .i64 qc.sa, .int .i64 qc.sr, .slice B1 qc.bs.length k1, .int .i64 qc.ta, .int .i64 qc.tr, .int .i64 qc.ts, .slice B2 qc.ms.length k2, .slice B3 qc.inv.length k3] 32)) := (Below.refl _ _).alloc (Nat.le_refl _) _
          have hb9 := hbb.trans (hb4.mono hbb.size)
          have HB9 := Lib.hid (HBW.out.trans (hb9.mono HBW.out.size))
          have HZ9 := Lib.hid (HZ7.out.next hb9)
          have HO9 := Lib.hid (HO7.out.below hb9 HO7.out.lt)
          have HS9 := Lib.hid ((HS8.out.below hb4).more hb4.size)
          have HR9 := Lib.hid (Row.new W8 32 #[.int .i64 qc.sa, .int .i64 qc.sr, .slice B1 qc.bs.length k1, .int .i64 qc.ta, .int .i64 qc.tr, .int .i64 qc.ts, .slice B2 qc.ms.length k2, .slice B3 qc.inv.length k3])
          clear hbb hb4 hb9 HZ7 HO7 HBW HS8
          go_upto_region 20 with fail
          generalize (W8.alloc (.cells #[.int .i64 qc.sa, .int .i64 qc.sr, .slice B1 qc.bs.length k1, .int .i64 qc.ta, .int .i64 qc.tr, .int .i64 qc.ts, .slice B2 qc.ms.length k2, .slice B3 qc.inv.length k3] 32)) = W9 at *
          generalize W8.heap.size = db at *
          have x0 := HZ9.out.row.k0; have x1 := HZ9.out.row.k1; have x2 := HZ9.out.row.k2
          rw [hxb] at x0 x1 x2
          go_wp2_with fail
          refine (C3.out _ HZ9.out).mono ?_
          rintro e W10 ⟨E1, j1, E2, j2, E3, j3, rfl, n1, n2, n3⟩
          have HT10 := Lib.hid (SaP.see n1 n2 n3 HOK.out)
          have hbb := n1.blw
          clear n1 n2 n3 x0 x1 x2
          have hb4 : Below W10.heap.size W10 (W10.alloc (.cells #[.int .i64 qc.sa, .int .i64 qc.sr, .slice E1 qc.bs.length j1, .int .i64 qc.ta, .int .i64 qc.tr, .int .i64 qc.ts, .slice E2 qc.ms.length j2, .slice E3 qc.inv.length j3] 32)) := (Below.refl _ _).alloc (Nat.le_refl _) _
          have hb11 := hbb.trans (hb4.mono hbb.size)
          have HB11 := Lib.hid (HB9.out.trans (hb11.mono HB9.out.size))
          have HZ11 := Lib.hid (HZ9.out.next hb11)
          have HO11 := Lib.hid (HO9.out.below hb11 HO9.out.lt)
          have HS11 := Lib.hid ((HS9.out.below hb11).more hb11.size)
          have HR11 := Lib.hid (HR9.out.below hb11 HR9.out.lt)
          have HT11 := Lib.hid ((HT10.out.below hb4).more hb4.size)
          have HU11 := Lib.hid (Row.new W10 32 #[.int .i64 qc.sa, .int .i64 qc.sr, .slice E1 qc.bs.length j1, .int .i64 qc.ta, .int .i64 qc.tr, .int .i64 qc.ts, .slice E2 qc.ms.length j2, .slice E3 qc.inv.length j3])
          clear hbb hb4 hb11 HZ9 HO9 HB9 HS9 HR9 HT10
          go_upto_region 21 with fail
          generalize (W10.alloc (.cells #[.int .i64 qc.sa, .int .i64 qc.sr, .slice E1 qc.bs.length j1, .int .i64 qc.ta, .int .i64 qc.tr, .int .i64 qc.ts, .slice E2 qc.ms.length j2, .slice E3 qc.inv.length j3] 32)) = W11 at *
          generalize W10.heap.size = eb at *
          have x0 := HZ11.out.row.k0; have x1 := HZ11.out.row.k1; have x2 := HZ11.out.row.k2
          rw [hxb] at x0 x1 x2
          have o0 := HO11.out.k0; have o1 := HO11.out.k1; have o2 := HO11.out.k2
          go_wp2_with fail
          refine (C7.out _ HB11.out HZ11.out).mono ?_
          rintro e W12 ⟨rfl, hb⟩
          have HZ12 := Lib.hid (HZ11.out.next hb)
          have HS12 := Lib.hid ((HS11.out.below hb).more hb.size)
          have HT12 := Lib.hid ((HT11.out.below hb).more hb.size)
          have HR12 := Lib.hid (HR11.out.below hb HR11.out.lt)
          have HU12 := Lib.hid (HU11.out.below hb HU11.out.lt)
          clear hb HZ11 HS11 HT11 HR11 HU11 HO11 HB11 x0 x1 x2 o0 o1 o2
          have C6 := Lib.hid (rsame16_all W12 HS12.out HT12.out ⟨HFW.out.1.1, HFW.out.1.1⟩ ⟨HFW.out.1.2, HFW.out.1.2⟩ ⟨HFW.out.2.1.1, HFW.out.2.1.1⟩ ⟨HFW.out.2.1.2, HFW.out.2.1.2⟩ ⟨HFW.out.2.2, HFW.out.2.2⟩ true (by simp))
          have p0 := HR12.out.k0; have p1 := HR12.out.k1; have p2 := HR12.out.k2; have p3 := HR12.out.k3; have p4 := HR12.out.k4; have p5 := HR12.out.k5; have p6 := HR12.out.k6; have p7 := HR12.out.k7
          have q0 := HU12.out.k0; have q1 := HU12.out.k1; have q2 := HU12.out.k2; have q3 := HU12.out.k3; have q4 := HU12.out.k4; have q5 := HU12.out.k5; have q6 := HU12.out.k6; have q7 := HU12.out.k7
          go_wp2_with fail
          refine C6.out.mono ?_
          rintro e W13 ⟨rfl, hb⟩
          have HZ13 := Lib.hid (HZ12.out.next hb)
          clear hb
          go_wp2
          go_ret
          exact ⟨rfl, hxb ▸ HZ13.out.blw⟩

end Go.Proofs.Ytcoehkphdfejjaa
