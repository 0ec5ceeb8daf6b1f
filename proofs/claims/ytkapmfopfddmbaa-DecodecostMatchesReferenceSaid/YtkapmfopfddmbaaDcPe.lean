/-
  The program of layer 21: the functions' headers (written by wip/lab/gendcpe.py).
-/
import Derived.Test.YtkapmfopfddmbaaDcPd
import Derived.Test.YtkapmfopfddmbaaPk1
import Derived.Test.YtkapmfopfddmbaaIcTerm
import Derived.Deep.RegionHeld3
import Derived.Deep.RegionHeldLaw
import Derived.BigQuiet
namespace Go.Proofs.Ytkapmfopfddmbaa
open Go.RowKit
set_option linter.unusedVariables false
set_option linter.unusedSimpArgs false

/-- A block that is newer than n blocks. -/
structure NX (n x : Nat) (T : TypeId) (cs : Array Value) (W : World) : Prop where
  lo : n ≤ x
  row : Row W x T cs

section
variable {n x : Nat} {T : TypeId} {cs : Array Value} {w W W' : World} {S : Nat → Prop}

theorem NX.new (h : n ≤ W.heap.size) (T : TypeId) (cs : Array Value) : NX n W.heap.size T cs (W.alloc (.cells cs T)) := ⟨h, Row.new _ _ _⟩

theorem NX.mods (h : NX n x T cs W) (hm : Mods S W W') (hS : ∀ k, S k → k < n) : NX n x T cs W' := ⟨h.lo, h.row.mods hm fun hs => by have := hS x hs; have := h.lo; omega⟩

theorem NX.put4 {z0 z1 z2 z3 : Value} (h : NX n x T #[z0, z1, z2, z3] W) (a0 a1 a2 a3 : Value) : NX n x T #[a0, a1, a2, a3] ((((W.setCell ⟨x, 0, none⟩ a0).setCell ⟨x, 1, none⟩ a1).setCell ⟨x, 2, none⟩ a2).setCell ⟨x, 3, none⟩ a3) := ⟨h.lo, h.row.put4i a0 a1 a2 a3⟩

variable {lo p : Nat} {l : List Nat} {A : Option Addr} {c : Nat} {t : Ip} {q : Nat}

theorem KC.drew (h : KC w lo p l A c t q cs W) : KC w lo p l A c t q cs W.drew := h.next ((Mods.refl _ _).drew) (h.ce.mods (S := No) (Mods.refl _ _).drew fun _ hk => hk.elim)

theorem KC.far (h : KC w lo p l A c t q cs W) (hx : w.heap.size ≤ x) (hm : Mods (Is x) W W') : KC w lo p l A c t q cs W' :=
  ⟨h.md.then hm fun k hk => .inr (by unfold Is at hk; omega), h.ce.mods hm fun k hk => .inr (by have := h.pw; unfold Is at hk; omega), h.bx.mods hm (by have := h.q1; unfold Is; omega), h.pw, h.qp⟩

end

set_option maxRecDepth 100000 in
set_option maxHeartbeats 16000000 in
theorem dfunc_any {w : World} {lo p : Nat} {l : List Nat} {A : Option Addr} {c : Nat} {s : Ip} {q : Nat} {b0 i0 p0 y0 : Int} (h : KC w lo p l A c s q (COS b0 i0 p0 y0) w) (hb0 : 0 ≤ b0) (hbt : b0 + fcB s ≤ 1152921504606846976) (hi0 : 0 ≤ i0) (hit : i0 + fcI s ≤ 1152921504606846976) :
    Calls Try.prog 43 #[.pointer (some ⟨p, 0, none⟩), .agg (ADD q)] w fun e w' => e = .returned (.agg (SZS (fA s).1 (fR' s).1 0 (fcB s))) ∧ KC w lo p l A c (fB s).2 q (COS (b0 + fcB s) (i0 + fcI s) p0 y0) w' := by
  have hmf : ∀ (fn : Fn) (first cap : Array Value) (w : World), (Instr.makeFunc fn first cap).run Try.prog w = .ok (.func fn first cap) w := fun _ _ _ _ => rfl
  have hKB : ∀ args W, (callFunc 23 args).run Try.prog W = .ok (.enter 23 args) W := fun args W => enters_of Try.func23 (by kernel_rfl) rfl args W
  have hKI : ∀ args W, (callFunc 61 args).run Try.prog W = .ok (.enter 61 args) W := fun args W => enters_of Try.func61 (by kernel_rfl) rfl args W
  obtain ⟨⟨a, sa⟩, hA⟩ : ∃ y, fA s = y := ⟨_, rfl⟩
  obtain ⟨⟨r, sr⟩, hR⟩ : ∃ y, fR' s = y := ⟨_, rfl⟩
  obtain ⟨sc, hC⟩ : ∃ y, fC s = y := ⟨_, rfl⟩
  obtain ⟨⟨n, sn⟩, hN⟩ : ∃ y, cntE 3 sc = y := ⟨_, rfl⟩
  have EA : sizeE s = (a, sa) := hA
  have ER : sizeE sa = (r, sr) := by have := hR; unfold fR' at this; rw [hA] at this; exact this
  have EC : (if decide (r < a) = true then failE 9 sr else sr) = sc := by have := hC; unfold fC at this; rw [hA, hR] at this; simpa using this
  have EB : fcB s = n := by unfold fcB; rw [hC, hN]
  obtain ⟨E1, E2⟩ := fB_bks (s := s)
  have EZ : bkZ sc = if n = 0 then failE 14 sn else sn := by unfold bkZ; rw [hN]
  rw [EB, hC, hR, EZ] at E1 E2
  dsimp only at E1 E2
  rw [EB, hA, hR, E1, E2]
  rw [EB] at hbt
  rw [E2] at hit
  dsimp only
  obtain ⟨s1, hs1⟩ : ∃ y, (if n = 0 then failE 14 sn else sn) = y := ⟨_, rfl⟩
  have HS1 : Hid ((if decide (n = 0) = true then failE 14 sn else sn) = s1) := by show _ = _; rw [← hs1]; by_cases h9 : n = 0 <;> simp [h9]
  rw [hs1] at hit ⊢
  obtain ⟨TB, hTB⟩ : ∃ y, bksT (gI r) r n n.toNat 0 s1 = y := ⟨_, rfl⟩
  obtain ⟨IB, hIB⟩ : ∃ y, bksI (gI r) r n n.toNat 0 s1 = y := ⟨_, rfl⟩
  rw [hTB, hIB]
  have HTB := Lib.hid hTB
  have HIB := Lib.hid hIB
  have ra : 0 ≤ a ∧ a ≤ 1048576 := by have := sizeE_rng (s := s); rw [EA] at this; exact this
  have rr : 0 ≤ r ∧ r ≤ 1048576 := by have := sizeE_rng (s := sa); rw [ER] at this; exact this
  have rn : 0 ≤ n ∧ n ≤ 1048576 := by have := cntE_rng (k := 3) (s := sc); rw [hN] at this; exact this
  have HIT := Lib.hid hit
  have K1 : Hid (∀ W, CE lo p l A c s W → Calls Try.prog 58 #[.pointer (some ⟨p, 0, none⟩)] W fun e w' => e = .returned (.int .i64 a) ∧ Mods (Is p) W w' ∧ CE lo p l A c sa w') := fun W hW => by have := dnum_ce hW; rw [EA] at this; exact this
  have K2 : Hid (∀ W, CE lo p l A c sa W → Calls Try.prog 58 #[.pointer (some ⟨p, 0, none⟩)] W fun e w' => e = .returned (.int .i64 r) ∧ Mods (Is p) W w' ∧ CE lo p l A c sr w') := fun W hW => by have := dnum_ce hW; rw [ER] at this; exact this
  have K4 : Hid (∀ W, CE lo p l A c sr W → Calls Try.prog 45 #[.pointer (some ⟨p, 0, none⟩), .bool (decide (r < a)), .int .i64 9] W fun e w' => e = .returned (.tuple #[]) ∧ Mods (Is p) W w' ∧ CE lo p l A c sc w') := fun W hW => by have := dfail_ce hW (decide (r < a)) 9 (by decide); rw [EC] at this; exact this
  have HA : ∀ W, Row W q 25 (COS b0 i0 p0 y0) → Calls Try.prog 23 #[.int .i64 n, .pointer (some ⟨q, 0, none⟩)] W fun e w' => e = .returned (.tuple #[]) ∧ Mods (Is q) W w' ∧ Row w' q 25 (COS (b0 + n) i0 p0 y0) := fun W hR => daddB_any hR (by omega) (by omega)
  have K5 : Hid (∀ W W0 cs, KC W0 lo p l A c sc q cs W → cs = COS b0 i0 p0 y0 → Calls Try.prog 59 #[.pointer (some ⟨p, 0, none⟩), .int .i64 3, .func (.func 23) #[] #[.pointer (some ⟨q, 0, none⟩)]] W fun e w' => e = .returned (.int .i64 n) ∧ Mods (Two p q) W w' ∧ CE lo p l A c sn w' ∧ Row w' q 25 (COS (b0 + n) i0 p0 y0)) := fun W W0 cs hW hcs => by
    subst hcs
    have := dcount_any hW.ce 3 (by decide) (by decide) 23 hKB hW.bx (.inl hW.qp.1) (cs' := COS (b0 + n) i0 p0 y0) (by rw [hN]; exact HA)
    rw [hN] at this
    exact this
  have HKI := Lib.hid hKI
  have H0 := Lib.hid (((h.alloc (.cells #[.pointer (some ⟨p, 0, none⟩)] 36)).alloc (.cells (ADD q) 50)).alloc (.cells #[.int .i64 0, .int .i64 0, .int .i64 0, .int .i64 0] 84))
  have RC := Lib.hid (((Row.new w 36 #[.pointer (some ⟨p, 0, none⟩)]).alloc (.cells (ADD q) 50)).alloc (.cells #[.int .i64 0, .int .i64 0, .int .i64 0, .int .i64 0] 84))
  have RA := Lib.hid ((Row.new (w.alloc (.cells #[.pointer (some ⟨p, 0, none⟩)] 36)) 50 (ADD q)).alloc (.cells #[.int .i64 0, .int .i64 0, .int .i64 0, .int .i64 0] 84))
  have RR := Lib.hid (Row.new ((w.alloc (.cells #[.pointer (some ⟨p, 0, none⟩)] 36)).alloc (.cells (ADD q) 50)) 84 #[.int .i64 0, .int .i64 0, .int .i64 0, .int .i64 0])
  rw [show (w.alloc (.cells #[.pointer (some ⟨p, 0, none⟩)] 36)).heap.size = w.heap.size + 1 by simp] at RA
  rw [show ((w.alloc (.cells #[.pointer (some ⟨p, 0, none⟩)] 36)).alloc (.cells (ADD q) 50)).heap.size = w.heap.size + 1 + 1 by simp] at RR
  have hz1 : (((w.alloc (.cells #[.pointer (some ⟨p, 0, none⟩)] 36)).alloc (.cells (ADD q) 50)).alloc (.cells #[.int .i64 0, .int .i64 0, .int .i64 0, .int .i64 0] 84)).heap.size = w.heap.size + 1 + 1 + 1 := by simp
  have hpw := h.pw
  have hqw := h.q1
  clear hA hR hC hN EA ER EC EB E1 E2 EZ hs1 hTB hIB h HA hKB hKI hit
  go_enter Try.func43, Try.ntmps43
  go_upto_region 1 with fail
  generalize (((w.alloc (.cells #[.pointer (some ⟨p, 0, none⟩)] 36)).alloc (.cells (ADD q) 50)).alloc (.cells #[.int .i64 0, .int .i64 0, .int .i64 0, .int .i64 0] 84)) = W1 at *
  obtain ⟨x2, hx2⟩ : ∃ x, w.heap.size = x := ⟨_, rfl⟩
  obtain ⟨x3, hx3⟩ : ∃ x, w.heap.size + 1 = x := ⟨_, rfl⟩
  obtain ⟨x4, hx4⟩ : ∃ x, w.heap.size + 1 + 1 = x := ⟨_, rfl⟩
  rw [hx2] at RC
  rw [hx3] at RA
  rw [hx4] at RR
  rw [hx4, hx3, hx2]
  have h23 : x2 < x3 := by omega
  have h24 : x3 < x4 := by omega
  have hw1 : x4 < W1.heap.size := by omega
  have hwx : w.heap.size ≤ x2 := by omega
  have hp2 : p < x2 := by omega
  have hq2 : q < x2 := by omega
  clear hx2 hx3 hx4 hz1
  have HM0 := Lib.hid H0.out.md
  have H1 : Hid (KC W1 lo p l A c s q (COS b0 i0 p0 y0) W1) := KC.start H0.out.ce H0.out.bx H0.out.qp.1
  clear H0
  go_cut [5] from 6 (fun s5 wx => ∃ x5, s5 = .pointer (some ⟨x5, 0, none⟩) ∧ Hid (KC W1 lo p l A c sr q (COS b0 i0 p0 y0) wx) ∧ Hid (NX W1.heap.size x5 84 #[.int .i64 a, .int .i64 r, .int .i64 0, .int .i64 0] wx))
  case first =>
    have HF := Lib.hid H1.out.drew
    clear H1
    go_wp2_with fail
    refine wp_region_held_drew (S := fun w' => w'.cell? ⟨x2, 0, none⟩ = some (.pointer (some ⟨p, 0, none⟩))) (by kernel_rfl) ((HF.out.row RC.out (by omega) (by omega)).k0) (fun hHeld => ?_)
    generalize hVV : W1.drew = V at *
    clear hVV
    refine take_at 0 6 (.pointer (some ⟨p, 0, none⟩)) rfl rfl (by kernel_rfl) (by kernel_rfl) (by kernel_rfl) (fun _ _ _ h => h) (Or.inl ⟨by rfl, ?_⟩) hHeld ?_
    · intro w9 hSw
      (try dsimp only at hSw)
      go_simp
    (try simp only [Act.put, List.setIfInBounds_toArray, List.set_cons_zero, List.set_cons_succ])
    refine take_at 2 8 (.pointer (some ⟨p, 0, none⟩)) rfl rfl (by kernel_rfl) (by kernel_rfl) (by kernel_rfl) (fun _ _ _ h => h) (Or.inl ⟨by rfl, ?_⟩) hHeld ?_
    · intro w9 hSw
      (try dsimp only at hSw)
      go_simp
    (try simp only [Act.put, List.setIfInBounds_toArray, List.set_cons_zero, List.set_cons_succ])
    repeat' (first
      | exact AllReadyH.nil
      | (refine AllReadyH.cons (i := 1) rfl (fun K hK => ?_) ?_; focus (go_simp; refine (K1.out _ HF.out.ce).mono ?_; rintro e V ⟨rfl, hm, hc⟩; (try go_wp2_with fail); (try replace HB0 := Lib.hid (HB0.out.mods hm (fun k hk => by unfold Is at hk; omega))); replace HF := Lib.hid (HF.out.next hm hc); refine hK.out _ _ ((HF.out.row RC.out (by omega) (by omega)).k0) (fun hHeld => ?_); clear hK K; clear hm hc))
      | (refine AllReadyH.cons (i := 3) rfl (fun K hK => ?_) ?_; focus (go_simp; refine (K2.out _ HF.out.ce).mono ?_; rintro e V ⟨rfl, hm, hc⟩; (try go_wp2_with fail); (try replace HB0 := Lib.hid (HB0.out.mods hm (fun k hk => by unfold Is at hk; omega))); replace HF := Lib.hid (HF.out.next hm hc); refine hK.out _ _ ((HF.out.row RC.out (by omega) (by omega)).k0) (fun hHeld => ?_); clear hK K; clear hm hc))
      | (refine AllReadyH.cons (i := 5) rfl (fun K hK => ?_) ?_; focus (go_simp; have HB0 := Lib.hid (NX.new (n := W1.heap.size) HF.out.sz 84 #[.int .i64 0, .int .i64 0, .int .i64 0, .int .i64 0]); replace HF := Lib.hid (HF.out.alloc (.cells #[.int .i64 0, .int .i64 0, .int .i64 0, .int .i64 0] 84)); refine hK.out _ _ ((HF.out.row RC.out (by omega) (by omega)).k0) (fun hHeld => ?_); clear hK K; generalize V.heap.size = x0 at *; generalize V.alloc (.cells #[.int .i64 0, .int .i64 0, .int .i64 0, .int .i64 0] 84) = V at *))
      | (refine AllReadyH.cons (i := 4) rfl (fun K hK => ?_) ?_; focus (go_simp; refine hK.out _ _ ((HF.out.row RC.out (by omega) (by omega)).k0) (fun hHeld => ?_); clear hK K))
      | (refine AllReadyH.cons (i := 6) rfl (fun K hK => ?_) ?_; focus (have hr0 := HB0.out.row; have c0 := hr0.k0; have c1 := hr0.k1; have c2 := hr0.k2; have c3 := hr0.k3; have f0 := hr0.frozen 0; have f1 := hr0.frozen 1; have f2 := hr0.frozen 2; have f3 := hr0.frozen 3; replace HF := Lib.hid (HF.out.far HB0.out.lo (mods4i V x0 (.int .i64 a) (.int .i64 r) (.int .i64 0) (.int .i64 0))); replace HB0 := Lib.hid (HB0.out.put4 (.int .i64 a) (.int .i64 r) (.int .i64 0) (.int .i64 0)); clear hr0; go_simp; refine hK.out _ _ ((HF.out.row RC.out (by omega) (by omega)).k0) (fun hHeld => ?_); clear hK K; clear c0 c1 c2 c3 f0 f1 f2 f3; generalize ((((V.setCell ⟨x0, 0, none⟩ (.int .i64 a)).setCell ⟨x0, 1, none⟩ (.int .i64 r)).setCell ⟨x0, 2, none⟩ (.int .i64 0)).setCell ⟨x0, 3, none⟩ (.int .i64 0)) = V at *))
      | refine wpAnyH_ready (rs := [1]) (by decide +kernel) (by simp) ?_
      | refine wpAnyH_ready (rs := [1, 5]) (by decide +kernel) (by simp) ?_
      | refine wpAnyH_ready (rs := [3]) (by decide +kernel) (by simp) ?_
      | refine wpAnyH_ready (rs := [3, 5]) (by decide +kernel) (by simp) ?_
      | refine wpAnyH_ready (rs := [4]) (by decide +kernel) (by simp) ?_
      | refine wpAnyH_ready (rs := [4, 5]) (by decide +kernel) (by simp) ?_
      | refine wpAnyH_ready (rs := [5]) (by decide +kernel) (by simp) ?_
      | refine wpAnyH_ready (rs := [6]) (by decide +kernel) (by simp) ?_
      | (refine wpAnyH_done (by decide +kernel) ?_ _; clear hHeld; go_wp2_with fail; focus (go_meet; case rel => exact ⟨x0, rfl, HF.out, HB0.out⟩)))
  case rest =>
    obtain ⟨x5, rfl, HC, HX⟩ := hcut
    clear H1
    have h5 := HX.out.lo
    have c0 : wc.cell? ⟨x2, 0, none⟩ = some (.pointer (some ⟨p, 0, none⟩)) := (HC.out.row RC.out (by omega) (by omega)).k0
    have g0 := HX.out.row.k0; have g1 := HX.out.row.k1
    have C4 := Lib.hid (K4.out wc HC.out.ce)
    go_wp2_with fail
    refine C4.out.mono ?_
    rintro e W3 ⟨rfl, hm, hc⟩
    have HC3 := Lib.hid (HC.out.next hm hc)
    have HX3 := Lib.hid (HX.out.mods hm fun k hk => by unfold Is at hk; omega)
    clear hm hc C4 HC HX c0 g0 g1 K1 K2 K4
    have c0 : W3.cell? ⟨x2, 0, none⟩ = some (.pointer (some ⟨p, 0, none⟩)) := (HC3.out.row RC.out (by omega) (by omega)).k0
    have d0 : W3.cell? ⟨x3, 0, none⟩ = some (.func (.func 23) #[] #[.pointer (some ⟨q, 0, none⟩)]) := (HC3.out.row RA.out (by omega) (by omega)).cell 0
    have C5 := Lib.hid (K5.out W3 W1 _ HC3.out rfl)
    go_wp2_with fail
    refine C5.out.mono ?_
    rintro e W4 ⟨rfl, hm, hc, hbx⟩
    have HC4 := Lib.hid (HC3.out.upd hm hc hbx)
    have HX4 := Lib.hid (HX3.out.mods hm fun k hk => by unfold Two at hk; omega)
    clear hm hc hbx C5 HC3 HX3 c0 d0 K5
    have g3 := HX4.out.row.k3; have gf := HX4.out.row.frozen 3
    go_upto_region 4 with fail
    clear g3 gf
    have HC5 := Lib.hid (HC4.out.far HX4.out.lo ((Mods.refl _ W4).put 3 (.int .i64 n)))
    have HX5 : Hid (NX W1.heap.size x5 84 #[.int .i64 a, .int .i64 r, .int .i64 0, .int .i64 n] (W4.setCell ⟨x5, 3, none⟩ (.int .i64 n))) := ⟨HX4.out.lo, HX4.out.row.put 3 (.int .i64 n)⟩
    generalize (W4.setCell ⟨x5, 3, none⟩ (.int .i64 n)) = W5 at *
    clear HC4 HX4
    have c0 : W5.cell? ⟨x2, 0, none⟩ = some (.pointer (some ⟨p, 0, none⟩)) := (HC5.out.row RC.out (by omega) (by omega)).k0
    have g0 := HX5.out.row.k0; have g1 := HX5.out.row.k1; have g2 := HX5.out.row.k2; have g3 := HX5.out.row.k3
    have d0 : W5.cell? ⟨x3, 0, none⟩ = some (.func (.func 23) #[] #[.pointer (some ⟨q, 0, none⟩)]) := (HC5.out.row RA.out (by omega) (by omega)).cell 0
    have d1 : W5.cell? ⟨x3, 1, none⟩ = some (.func (.func 24) #[] #[.pointer (some ⟨q, 0, none⟩)]) := (HC5.out.row RA.out (by omega) (by omega)).cell 1
    have d2 : W5.cell? ⟨x3, 2, none⟩ = some (.func (.func 25) #[] #[.pointer (some ⟨q, 0, none⟩)]) := (HC5.out.row RA.out (by omega) (by omega)).cell 2
    have HSTART : KC W5 lo p l A c sn q (COS (b0 + n) i0 p0 y0) W5 := KC.start HC5.out.ce HC5.out.bx HC5.out.qp.1
    have hx := HC5.out.row RC.out (by omega) (by omega)
    have hy := HX5.out.row
    have C6 := Lib.hid (dblks_any HSTART a r 0 n rr rn 61 #[.pointer (some ⟨x2, 0, none⟩), .pointer (some ⟨x5, 0, none⟩)] HKI.out (gI r) (fun W t hm hc => dinsI_ce hc (hx.mods hm (by unfold Two; omega)) (hy.mods hm (by unfold Two; omega)) rr) HS1.out hi0 HIT.out)
    rw [HTB.out, HIB.out] at C6
    clear HSTART HTB HIB hx hy HS1 HIT HKI
    unfold SZS ADD at C6
    go_wp2_with fail
    refine C6.out.mono ?_
    rintro e W6 ⟨rfl, hk⟩
    have HC6 := Lib.hid (hk.after HC5.out.md HC5.out.pw)
    have HX6 := Lib.hid (HX5.out.mods hk.md fun k hk => by unfold Two at hk; omega)
    clear hk C6 HC5 HX5 c0 g0 g1 g2 g3 d0 d1 d2
    have g0 := HX6.out.row.k0; have g1 := HX6.out.row.k1; have g2 := HX6.out.row.k2; have g3 := HX6.out.row.k3
    have RR6 := Lib.hid (HC6.out.row RR.out (by omega) (by omega))
    have z0 := RR6.out.k0; have z1 := RR6.out.k1; have z2 := RR6.out.k2; have z3 := RR6.out.k3
    have f0 := RR6.out.frozen 0; have f1 := RR6.out.frozen 1; have f2 := RR6.out.frozen 2; have f3 := RR6.out.frozen 3
    go_wp2
    (try simp only [Exit.inBlock, Exit.then])
    refine bodyPost_ret (v := .agg #[.int .i64 a, .int .i64 r, .int .i64 0, .int .i64 n]) ?_ rfl ⟨rfl, ?_⟩
    · exact results_cell_row rfl _ _ x4 84 #[.int .i64 a, .int .i64 r, .int .i64 0, .int .i64 n] (0, 0) _ rfl (RR6.out.put4i _ _ _ _) Try.underlying84 rfl (by kernel_rfl)
    · exact (HC6.out.after HM0.out (by omega)).far (by omega) (mods4i W6 x4 (.int .i64 a) (.int .i64 r) (.int .i64 0) (.int .i64 n))

set_option maxRecDepth 100000 in
set_option maxHeartbeats 16000000 in
theorem dmfunc_any {w : World} {lo p : Nat} {l : List Nat} {A : Option Addr} {c : Nat} {s : Ip} {q : Nat} {b0 i0 p0 y0 : Int} (h : KC w lo p l A c s q (COS b0 i0 p0 y0) w) (hb0 : 0 ≤ b0) (hbt : b0 + gcB s ≤ 1152921504606846976) (hi0 : 0 ≤ i0) (hit : i0 + gcI s ≤ 1152921504606846976) :
    Calls Try.prog 44 #[.pointer (some ⟨p, 0, none⟩), .agg (ADD q)] w fun e w' => e = .returned (.agg (SZS (fA s).1 (fR' s).1 (gS s).1 (gcB s))) ∧ KC w lo p l A c (gB s).2 q (COS (b0 + gcB s) (i0 + gcI s) p0 y0) w' := by
  have hmf : ∀ (fn : Fn) (first cap : Array Value) (w : World), (Instr.makeFunc fn first cap).run Try.prog w = .ok (.func fn first cap) w := fun _ _ _ _ => rfl
  have hKB : ∀ args W, (callFunc 23 args).run Try.prog W = .ok (.enter 23 args) W := fun args W => enters_of Try.func23 (by kernel_rfl) rfl args W
  have hKI : ∀ args W, (callFunc 63 args).run Try.prog W = .ok (.enter 63 args) W := fun args W => enters_of Try.func63 (by kernel_rfl) rfl args W
  obtain ⟨⟨a, sa⟩, hA⟩ : ∃ y, fA s = y := ⟨_, rfl⟩
  obtain ⟨⟨r, sr⟩, hR⟩ : ∃ y, fR' s = y := ⟨_, rfl⟩
  obtain ⟨⟨sl, ss⟩, hS⟩ : ∃ y, gS s = y := ⟨_, rfl⟩
  obtain ⟨sc, hC⟩ : ∃ y, gC s = y := ⟨_, rfl⟩
  obtain ⟨⟨n, sn⟩, hN⟩ : ∃ y, cntE 3 sc = y := ⟨_, rfl⟩
  have EA : sizeE s = (a, sa) := hA
  have ER : sizeE sa = (r, sr) := by have := hR; unfold fR' at this; rw [hA] at this; exact this
  have ES : sizeE sr = (sl, ss) := by have := hS; unfold gS at this; rw [hR] at this; exact this
  have EC : (if decide (sl < a) = true then failE 10 ss else ss) = sc := by have := hC; unfold gC at this; rw [hA, hS] at this; simpa using this
  have EB : gcB s = n := by unfold gcB; rw [hC, hN]
  obtain ⟨E1, E2⟩ := gB_bks (s := s)
  have EZ : bkZ sc = if n = 0 then failE 14 sn else sn := by unfold bkZ; rw [hN]
  rw [EB, hC, hR, EZ, hS] at E1 E2
  dsimp only at E1 E2
  rw [EB, hA, hR, hS, E1, E2]
  rw [EB] at hbt
  rw [E2] at hit
  dsimp only
  obtain ⟨s1, hs1⟩ : ∃ y, (if n = 0 then failE 14 sn else sn) = y := ⟨_, rfl⟩
  have HS1 : Hid ((if decide (n = 0) = true then failE 14 sn else sn) = s1) := by show _ = _; rw [← hs1]; by_cases h9 : n = 0 <;> simp [h9]
  rw [hs1] at hit ⊢
  obtain ⟨TB, hTB⟩ : ∃ y, bksT (gM r sl) r n n.toNat 0 s1 = y := ⟨_, rfl⟩
  obtain ⟨IB, hIB⟩ : ∃ y, bksI (gM r sl) r n n.toNat 0 s1 = y := ⟨_, rfl⟩
  rw [hTB, hIB]
  have HTB := Lib.hid hTB
  have HIB := Lib.hid hIB
  have ra : 0 ≤ a ∧ a ≤ 1048576 := by have := sizeE_rng (s := s); rw [EA] at this; exact this
  have rr : 0 ≤ r ∧ r ≤ 1048576 := by have := sizeE_rng (s := sa); rw [ER] at this; exact this
  have rs : 0 ≤ sl ∧ sl ≤ 1048576 := by have := sizeE_rng (s := sr); rw [ES] at this; exact this
  have rn : 0 ≤ n ∧ n ≤ 1048576 := by have := cntE_rng (k := 3) (s := sc); rw [hN] at this; exact this
  have HIT := Lib.hid hit
  have K1 : Hid (∀ W, CE lo p l A c s W → Calls Try.prog 58 #[.pointer (some ⟨p, 0, none⟩)] W fun e w' => e = .returned (.int .i64 a) ∧ Mods (Is p) W w' ∧ CE lo p l A c sa w') := fun W hW => by have := dnum_ce hW; rw [EA] at this; exact this
  have K2 : Hid (∀ W, CE lo p l A c sa W → Calls Try.prog 58 #[.pointer (some ⟨p, 0, none⟩)] W fun e w' => e = .returned (.int .i64 r) ∧ Mods (Is p) W w' ∧ CE lo p l A c sr w') := fun W hW => by have := dnum_ce hW; rw [ER] at this; exact this
  have K3 : Hid (∀ W, CE lo p l A c sr W → Calls Try.prog 58 #[.pointer (some ⟨p, 0, none⟩)] W fun e w' => e = .returned (.int .i64 sl) ∧ Mods (Is p) W w' ∧ CE lo p l A c ss w') := fun W hW => by have := dnum_ce hW; rw [ES] at this; exact this
  have K4 : Hid (∀ W, CE lo p l A c ss W → Calls Try.prog 45 #[.pointer (some ⟨p, 0, none⟩), .bool (decide (sl < a)), .int .i64 10] W fun e w' => e = .returned (.tuple #[]) ∧ Mods (Is p) W w' ∧ CE lo p l A c sc w') := fun W hW => by have := dfail_ce hW (decide (sl < a)) 10 (by decide); rw [EC] at this; exact this
  have HA : ∀ W, Row W q 25 (COS b0 i0 p0 y0) → Calls Try.prog 23 #[.int .i64 n, .pointer (some ⟨q, 0, none⟩)] W fun e w' => e = .returned (.tuple #[]) ∧ Mods (Is q) W w' ∧ Row w' q 25 (COS (b0 + n) i0 p0 y0) := fun W hR => daddB_any hR (by omega) (by omega)
  have K5 : Hid (∀ W W0 cs, KC W0 lo p l A c sc q cs W → cs = COS b0 i0 p0 y0 → Calls Try.prog 59 #[.pointer (some ⟨p, 0, none⟩), .int .i64 3, .func (.func 23) #[] #[.pointer (some ⟨q, 0, none⟩)]] W fun e w' => e = .returned (.int .i64 n) ∧ Mods (Two p q) W w' ∧ CE lo p l A c sn w' ∧ Row w' q 25 (COS (b0 + n) i0 p0 y0)) := fun W W0 cs hW hcs => by
    subst hcs
    have := dcount_any hW.ce 3 (by decide) (by decide) 23 hKB hW.bx (.inl hW.qp.1) (cs' := COS (b0 + n) i0 p0 y0) (by rw [hN]; exact HA)
    rw [hN] at this
    exact this
  have HKI := Lib.hid hKI
  have H0 := Lib.hid (((h.alloc (.cells #[.pointer (some ⟨p, 0, none⟩)] 36)).alloc (.cells (ADD q) 50)).alloc (.cells #[.int .i64 0, .int .i64 0, .int .i64 0, .int .i64 0] 84))
  have RC := Lib.hid (((Row.new w 36 #[.pointer (some ⟨p, 0, none⟩)]).alloc (.cells (ADD q) 50)).alloc (.cells #[.int .i64 0, .int .i64 0, .int .i64 0, .int .i64 0] 84))
  have RA := Lib.hid ((Row.new (w.alloc (.cells #[.pointer (some ⟨p, 0, none⟩)] 36)) 50 (ADD q)).alloc (.cells #[.int .i64 0, .int .i64 0, .int .i64 0, .int .i64 0] 84))
  have RR := Lib.hid (Row.new ((w.alloc (.cells #[.pointer (some ⟨p, 0, none⟩)] 36)).alloc (.cells (ADD q) 50)) 84 #[.int .i64 0, .int .i64 0, .int .i64 0, .int .i64 0])
  rw [show (w.alloc (.cells #[.pointer (some ⟨p, 0, none⟩)] 36)).heap.size = w.heap.size + 1 by simp] at RA
  rw [show ((w.alloc (.cells #[.pointer (some ⟨p, 0, none⟩)] 36)).alloc (.cells (ADD q) 50)).heap.size = w.heap.size + 1 + 1 by simp] at RR
  have hz1 : (((w.alloc (.cells #[.pointer (some ⟨p, 0, none⟩)] 36)).alloc (.cells (ADD q) 50)).alloc (.cells #[.int .i64 0, .int .i64 0, .int .i64 0, .int .i64 0] 84)).heap.size = w.heap.size + 1 + 1 + 1 := by simp
  have hpw := h.pw
  have hqw := h.q1
  clear hA hR hC hN EA ER EC EB E1 E2 EZ hs1 hTB hIB h HA hKB hKI hit hS ES
  go_enter Try.func44, Try.ntmps44
  go_upto_region 1 with fail
  generalize (((w.alloc (.cells #[.pointer (some ⟨p, 0, none⟩)] 36)).alloc (.cells (ADD q) 50)).alloc (.cells #[.int .i64 0, .int .i64 0, .int .i64 0, .int .i64 0] 84)) = W1 at *
  obtain ⟨x2, hx2⟩ : ∃ x, w.heap.size = x := ⟨_, rfl⟩
  obtain ⟨x3, hx3⟩ : ∃ x, w.heap.size + 1 = x := ⟨_, rfl⟩
  obtain ⟨x4, hx4⟩ : ∃ x, w.heap.size + 1 + 1 = x := ⟨_, rfl⟩
  rw [hx2] at RC
  rw [hx3] at RA
  rw [hx4] at RR
  rw [hx4, hx3, hx2]
  have h23 : x2 < x3 := by omega
  have h24 : x3 < x4 := by omega
  have hw1 : x4 < W1.heap.size := by omega
  have hwx : w.heap.size ≤ x2 := by omega
  have hp2 : p < x2 := by omega
  have hq2 : q < x2 := by omega
  clear hx2 hx3 hx4 hz1
  have HM0 := Lib.hid H0.out.md
  have H1 : Hid (KC W1 lo p l A c s q (COS b0 i0 p0 y0) W1) := KC.start H0.out.ce H0.out.bx H0.out.qp.1
  clear H0
  go_cut [5] from 6 (fun s5 wx => ∃ x5, s5 = .pointer (some ⟨x5, 0, none⟩) ∧ Hid (KC W1 lo p l A c ss q (COS b0 i0 p0 y0) wx) ∧ Hid (NX W1.heap.size x5 84 #[.int .i64 a, .int .i64 r, .int .i64 sl, .int .i64 0] wx))
  case first =>
    have HF := Lib.hid H1.out.drew
    clear H1
    go_wp2_with fail
    refine wp_region_held_drew (S := fun w' => w'.cell? ⟨x2, 0, none⟩ = some (.pointer (some ⟨p, 0, none⟩))) (by kernel_rfl) ((HF.out.row RC.out (by omega) (by omega)).k0) (fun hHeld => ?_)
    generalize hVV : W1.drew = V at *
    clear hVV
    refine take_at 0 6 (.pointer (some ⟨p, 0, none⟩)) rfl rfl (by kernel_rfl) (by kernel_rfl) (by kernel_rfl) (fun _ _ _ h => h) (Or.inl ⟨by rfl, ?_⟩) hHeld ?_
    · intro w9 hSw
      (try dsimp only at hSw)
      go_simp
    (try simp only [Act.put, List.setIfInBounds_toArray, List.set_cons_zero, List.set_cons_succ])
    refine take_at 2 8 (.pointer (some ⟨p, 0, none⟩)) rfl rfl (by kernel_rfl) (by kernel_rfl) (by kernel_rfl) (fun _ _ _ h => h) (Or.inl ⟨by rfl, ?_⟩) hHeld ?_
    · intro w9 hSw
      (try dsimp only at hSw)
      go_simp
    (try simp only [Act.put, List.setIfInBounds_toArray, List.set_cons_zero, List.set_cons_succ])
    refine take_at 4 10 (.pointer (some ⟨p, 0, none⟩)) rfl rfl (by kernel_rfl) (by kernel_rfl) (by kernel_rfl) (fun _ _ _ h => h) (Or.inl ⟨by rfl, ?_⟩) hHeld ?_
    · intro w9 hSw
      (try dsimp only at hSw)
      go_simp
    (try simp only [Act.put, List.setIfInBounds_toArray, List.set_cons_zero, List.set_cons_succ])
    repeat' (first
      | exact AllReadyH.nil
      | (refine AllReadyH.cons (i := 1) rfl (fun K hK => ?_) ?_; focus (go_simp; refine (K1.out _ HF.out.ce).mono ?_; rintro e V ⟨rfl, hm, hc⟩; (try go_wp2_with fail); (try replace HB0 := Lib.hid (HB0.out.mods hm (fun k hk => by unfold Is at hk; omega))); replace HF := Lib.hid (HF.out.next hm hc); refine hK.out _ _ ((HF.out.row RC.out (by omega) (by omega)).k0) (fun hHeld => ?_); clear hK K; clear hm hc))
      | (refine AllReadyH.cons (i := 3) rfl (fun K hK => ?_) ?_; focus (go_simp; refine (K2.out _ HF.out.ce).mono ?_; rintro e V ⟨rfl, hm, hc⟩; (try go_wp2_with fail); (try replace HB0 := Lib.hid (HB0.out.mods hm (fun k hk => by unfold Is at hk; omega))); replace HF := Lib.hid (HF.out.next hm hc); refine hK.out _ _ ((HF.out.row RC.out (by omega) (by omega)).k0) (fun hHeld => ?_); clear hK K; clear hm hc))
      | (refine AllReadyH.cons (i := 5) rfl (fun K hK => ?_) ?_; focus (go_simp; refine (K3.out _ HF.out.ce).mono ?_; rintro e V ⟨rfl, hm, hc⟩; (try go_wp2_with fail); (try replace HB0 := Lib.hid (HB0.out.mods hm (fun k hk => by unfold Is at hk; omega))); replace HF := Lib.hid (HF.out.next hm hc); refine hK.out _ _ ((HF.out.row RC.out (by omega) (by omega)).k0) (fun hHeld => ?_); clear hK K; clear hm hc))
      | (refine AllReadyH.cons (i := 7) rfl (fun K hK => ?_) ?_; focus (go_simp; have HB0 := Lib.hid (NX.new (n := W1.heap.size) HF.out.sz 84 #[.int .i64 0, .int .i64 0, .int .i64 0, .int .i64 0]); replace HF := Lib.hid (HF.out.alloc (.cells #[.int .i64 0, .int .i64 0, .int .i64 0, .int .i64 0] 84)); refine hK.out _ _ ((HF.out.row RC.out (by omega) (by omega)).k0) (fun hHeld => ?_); clear hK K; generalize V.heap.size = x0 at *; generalize V.alloc (.cells #[.int .i64 0, .int .i64 0, .int .i64 0, .int .i64 0] 84) = V at *))
      | (refine AllReadyH.cons (i := 6) rfl (fun K hK => ?_) ?_; focus (go_simp; refine hK.out _ _ ((HF.out.row RC.out (by omega) (by omega)).k0) (fun hHeld => ?_); clear hK K))
      | (refine AllReadyH.cons (i := 8) rfl (fun K hK => ?_) ?_; focus (have hr0 := HB0.out.row; have c0 := hr0.k0; have c1 := hr0.k1; have c2 := hr0.k2; have c3 := hr0.k3; have f0 := hr0.frozen 0; have f1 := hr0.frozen 1; have f2 := hr0.frozen 2; have f3 := hr0.frozen 3; replace HF := Lib.hid (HF.out.far HB0.out.lo (mods4i V x0 (.int .i64 a) (.int .i64 r) (.int .i64 sl) (.int .i64 0))); replace HB0 := Lib.hid (HB0.out.put4 (.int .i64 a) (.int .i64 r) (.int .i64 sl) (.int .i64 0)); clear hr0; go_simp; refine hK.out _ _ ((HF.out.row RC.out (by omega) (by omega)).k0) (fun hHeld => ?_); clear hK K; clear c0 c1 c2 c3 f0 f1 f2 f3; generalize ((((V.setCell ⟨x0, 0, none⟩ (.int .i64 a)).setCell ⟨x0, 1, none⟩ (.int .i64 r)).setCell ⟨x0, 2, none⟩ (.int .i64 sl)).setCell ⟨x0, 3, none⟩ (.int .i64 0)) = V at *))
      | refine wpAnyH_ready (rs := [1]) (by decide +kernel) (by simp) ?_
      | refine wpAnyH_ready (rs := [1, 7]) (by decide +kernel) (by simp) ?_
      | refine wpAnyH_ready (rs := [3]) (by decide +kernel) (by simp) ?_
      | refine wpAnyH_ready (rs := [3, 7]) (by decide +kernel) (by simp) ?_
      | refine wpAnyH_ready (rs := [5]) (by decide +kernel) (by simp) ?_
      | refine wpAnyH_ready (rs := [5, 7]) (by decide +kernel) (by simp) ?_
      | refine wpAnyH_ready (rs := [6]) (by decide +kernel) (by simp) ?_
      | refine wpAnyH_ready (rs := [6, 7]) (by decide +kernel) (by simp) ?_
      | refine wpAnyH_ready (rs := [7]) (by decide +kernel) (by simp) ?_
      | refine wpAnyH_ready (rs := [8]) (by decide +kernel) (by simp) ?_
      | (refine wpAnyH_done (by decide +kernel) ?_ _; clear hHeld; go_wp2_with fail; focus (go_meet; case rel => exact ⟨x0, rfl, HF.out, HB0.out⟩)))
  case rest =>
    obtain ⟨x5, rfl, HC, HX⟩ := hcut
    clear H1
    have h5 := HX.out.lo
    have c0 : wc.cell? ⟨x2, 0, none⟩ = some (.pointer (some ⟨p, 0, none⟩)) := (HC.out.row RC.out (by omega) (by omega)).k0
    have g0 := HX.out.row.k0; have g1 := HX.out.row.k2
    have C4 := Lib.hid (K4.out wc HC.out.ce)
    go_wp2_with fail
    refine C4.out.mono ?_
    rintro e W3 ⟨rfl, hm, hc⟩
    have HC3 := Lib.hid (HC.out.next hm hc)
    have HX3 := Lib.hid (HX.out.mods hm fun k hk => by unfold Is at hk; omega)
    clear hm hc C4 HC HX c0 g0 g1 K1 K2 K4 K3
    have c0 : W3.cell? ⟨x2, 0, none⟩ = some (.pointer (some ⟨p, 0, none⟩)) := (HC3.out.row RC.out (by omega) (by omega)).k0
    have d0 : W3.cell? ⟨x3, 0, none⟩ = some (.func (.func 23) #[] #[.pointer (some ⟨q, 0, none⟩)]) := (HC3.out.row RA.out (by omega) (by omega)).cell 0
    have C5 := Lib.hid (K5.out W3 W1 _ HC3.out rfl)
    go_wp2_with fail
    refine C5.out.mono ?_
    rintro e W4 ⟨rfl, hm, hc, hbx⟩
    have HC4 := Lib.hid (HC3.out.upd hm hc hbx)
    have HX4 := Lib.hid (HX3.out.mods hm fun k hk => by unfold Two at hk; omega)
    clear hm hc hbx C5 HC3 HX3 c0 d0 K5
    have g3 := HX4.out.row.k3; have gf := HX4.out.row.frozen 3
    go_upto_region 4 with fail
    clear g3 gf
    have HC5 := Lib.hid (HC4.out.far HX4.out.lo ((Mods.refl _ W4).put 3 (.int .i64 n)))
    have HX5 : Hid (NX W1.heap.size x5 84 #[.int .i64 a, .int .i64 r, .int .i64 sl, .int .i64 n] (W4.setCell ⟨x5, 3, none⟩ (.int .i64 n))) := ⟨HX4.out.lo, HX4.out.row.put 3 (.int .i64 n)⟩
    generalize (W4.setCell ⟨x5, 3, none⟩ (.int .i64 n)) = W5 at *
    clear HC4 HX4
    have c0 : W5.cell? ⟨x2, 0, none⟩ = some (.pointer (some ⟨p, 0, none⟩)) := (HC5.out.row RC.out (by omega) (by omega)).k0
    have g0 := HX5.out.row.k0; have g1 := HX5.out.row.k1; have g2 := HX5.out.row.k2; have g3 := HX5.out.row.k3
    have d0 : W5.cell? ⟨x3, 0, none⟩ = some (.func (.func 23) #[] #[.pointer (some ⟨q, 0, none⟩)]) := (HC5.out.row RA.out (by omega) (by omega)).cell 0
    have d1 : W5.cell? ⟨x3, 1, none⟩ = some (.func (.func 24) #[] #[.pointer (some ⟨q, 0, none⟩)]) := (HC5.out.row RA.out (by omega) (by omega)).cell 1
    have d2 : W5.cell? ⟨x3, 2, none⟩ = some (.func (.func 25) #[] #[.pointer (some ⟨q, 0, none⟩)]) := (HC5.out.row RA.out (by omega) (by omega)).cell 2
    have HSTART : KC W5 lo p l A c sn q (COS (b0 + n) i0 p0 y0) W5 := KC.start HC5.out.ce HC5.out.bx HC5.out.qp.1
    have hx := HC5.out.row RC.out (by omega) (by omega)
    have hy := HX5.out.row
    have C6 := Lib.hid (dblks_any HSTART a r sl n rr rn 63 #[.pointer (some ⟨x2, 0, none⟩), .pointer (some ⟨x5, 0, none⟩)] HKI.out (gM r sl) (fun W t hm hc => dinsM_ce hc (hx.mods hm (by unfold Two; omega)) (hy.mods hm (by unfold Two; omega)) rr rs) HS1.out hi0 HIT.out)
    rw [HTB.out, HIB.out] at C6
    clear HSTART HTB HIB hx hy HS1 HIT HKI
    unfold SZS ADD at C6
    go_wp2_with fail
    refine C6.out.mono ?_
    rintro e W6 ⟨rfl, hk⟩
    have HC6 := Lib.hid (hk.after HC5.out.md HC5.out.pw)
    have HX6 := Lib.hid (HX5.out.mods hk.md fun k hk => by unfold Two at hk; omega)
    clear hk C6 HC5 HX5 c0 g0 g1 g2 g3 d0 d1 d2
    have g0 := HX6.out.row.k0; have g1 := HX6.out.row.k1; have g2 := HX6.out.row.k2; have g3 := HX6.out.row.k3
    have RR6 := Lib.hid (HC6.out.row RR.out (by omega) (by omega))
    have z0 := RR6.out.k0; have z1 := RR6.out.k1; have z2 := RR6.out.k2; have z3 := RR6.out.k3
    have f0 := RR6.out.frozen 0; have f1 := RR6.out.frozen 1; have f2 := RR6.out.frozen 2; have f3 := RR6.out.frozen 3
    go_wp2
    (try simp only [Exit.inBlock, Exit.then])
    refine bodyPost_ret (v := .agg #[.int .i64 a, .int .i64 r, .int .i64 sl, .int .i64 n]) ?_ rfl ⟨rfl, ?_⟩
    · exact results_cell_row rfl _ _ x4 84 #[.int .i64 a, .int .i64 r, .int .i64 sl, .int .i64 n] (0, 0) _ rfl (RR6.out.put4i _ _ _ _) Try.underlying84 rfl (by kernel_rfl)
    · exact (HC6.out.after HM0.out (by omega)).far (by omega) (mods4i W6 x4 (.int .i64 a) (.int .i64 r) (.int .i64 sl) (.int .i64 n))

end Go.Proofs.Ytkapmfopfddmbaa
