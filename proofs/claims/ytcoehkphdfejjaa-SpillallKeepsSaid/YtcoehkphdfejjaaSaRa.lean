/-
  The reference's Block (written by wip/lab/gensara.py).
-/
import Derived.Test.YtcoehkphdfejjaaPk43
namespace Go.Proofs.Ytcoehkphdfejjaa
open Go.RowKit
set_option linter.unusedVariables false
set_option linter.unusedSimpArgs false

set_option maxRecDepth 100000 in
set_option maxHeartbeats 1000000 in
theorem rmove22 (d s : Int) (w : World) :
    Calls Try.prog 33 #[.int .i64 d, .int .i64 s] w fun e w' => e = .returned (.agg #[.int .i64 18, .int .i64 0, .int .i64 0, .int .i64 0, .int .i64 0, .int .i64 (d), .int .i64 (s)]) ∧ Grew w w' := by
  go_enter Try.func33, Try.ntmps33
  go_wp2
  refine bodyPost_ret (v := .agg #[.int .i64 18, .int .i64 0, .int .i64 0, .int .i64 0, .int .i64 0, .int .i64 (d), .int .i64 (s)]) ?_ rfl ⟨rfl, (Grew.refl w).alloc _⟩
  exact results_cell_row rfl _ _ w.heap.size 69 #[.int .i64 18, .int .i64 0, .int .i64 0, .int .i64 0, .int .i64 0, .int .i64 (d), .int .i64 (s)] (0, 0) _ rfl (Row.new w _ _) Try.underlying69 rfl (by kernel_rfl)

theorem mi1_22 (y : Mi) : ∀ u ∈ y.cells, u.oneCell' = true := fun u hu => by
  simp only [Mi.cells, List.mem_cons, List.not_mem_nil, or_false] at hu
  rcases hu with rfl | rfl | rfl | rfl | rfl | rfl | rfl <;> rfl

/-- A list of one's own beside an instruction's box and an operation's. -/
structure QB (w : World) (xb mb : Nat) (xc mc : Array Value) (v : Value) (l : List Mi) (W : World) : Prop where
  rl : RL Mi.cells 7 69 w v l W
  x : Row W xb 62 xc
  m : Row W mb 69 mc
  far : ∀ k, v.ownBlock = some k → k ≠ mb
  lo : w.heap.size ≤ mb ∧ xb ≠ mb

section
variable {w W W' : World} {xb mb : Nat} {xc mc : Array Value} {v v' : Value} {l : List Mi} {n : Nat}

theorem QB.next (h : QB w xb mb xc mc v l W) (hb : Below W.heap.size W W') : QB w xb mb xc mc v l W' := ⟨h.rl.next hb, h.x.below hb h.x.lt, h.m.below hb h.m.lt, h.far, h.lo⟩

theorem QB.grew (h : QB w xb mb xc mc v l W) (hb : Grew W W') : QB w xb mb xc mc v l W' := h.next hb.below

theorem QB.alloc (h : QB w xb mb xc mc v l W) (o : Obj) : QB w xb mb xc mc v l (W.alloc o) := h.grew ((Grew.refl W).alloc o)

theorem QB.snoc (h : QB w xb mb xc mc v l W) (y : Mi) (hn : l.length = n) (ho : W'.ownsRow w.heap.size 69 7 v' (n + 1) (l.flatMap Mi.cells ++ y.cells)) (hg : W.grownBy W' v.ownBlock) (hb : v'.ownBlock = v.ownBlock ∨ v'.ownBlock = some W.heap.size) : QB w xb mb xc mc v' (l ++ [y]) W' := by
  have hG : Mods (fun k => v.ownBlock = some k) W W' := (Mods.refl _ _).grown hg fun k hk => .inl hk
  refine ⟨h.rl.snoc y hn ho hg, h.x.mods hG fun e => own_row_neS h.rl.own h.x (by decide) xb e rfl, h.m.mods hG fun e => h.far mb e rfl, fun k hk => ?_, h.lo⟩
  rcases hb with hb | hb
  · rw [hb] at hk; exact h.far k hk
  · rw [hb] at hk
    injection hk with hk
    have := h.m.lt
    omega

theorem QB.put (h : QB w xb mb xc mc v l W) (i : Nat) (u : Value) : QB w xb mb xc (mc.setIfInBounds i u) v l (W.setCell ⟨mb, i, none⟩ u) := by
  have hM : Mods (Is mb) W (W.setCell ⟨mb, i, none⟩ u) := (Mods.refl (Is mb) W).put i u
  exact ⟨⟨hM.ownS h.rl.own fun k hk e => h.far k hk e, h.rl.blw.trans (hM.below h.rl.blw.size fun k hk => by unfold Is at hk; have := h.lo; omega)⟩, h.x.mods hM (fun e => h.lo.2 e), h.m.put i u, h.far, h.lo⟩

end

set_option maxRecDepth 100000 in
set_option maxHeartbeats 8000000 in
theorem rblock22 (A : Option Addr) (x : Blk) (c : Nat) (w : World) (hs : InsAt w w.heap.size A x.code) (hm : x.code.length ≤ 1000) (ht : Tm22 x.term) (hx : ∀ i ∈ x.code, In22 i) :
    Calls Try.prog 14 #[.agg #[.slice A x.code.length c, .int .i64 x.term.kind, .int .i64 x.term.a, .int .i64 x.term.to, .int .i64 x.term.el]] w fun e w' => ∃ A' c', e = .returned (.agg #[.slice A' (spB x).code.length c', .int .i64 x.term.kind, .int .i64 0, .int .i64 x.term.to, .int .i64 x.term.el]) ∧
      w'.ownsRow w.heap.size 69 7 (.slice A' (spB x).code.length c') (spB x).code.length ((spB x).code.flatMap Mi.cells) ∧ Below w.heap.size w w' := by
  have mixed : Try.prog.follows .mixedOrders = true := by kernel_rfl
  obtain ⟨i0, hi0, hz0, hz1, hz2⟩ := info_parts infoMi
  have HSP : Hid (spB x = ⟨x.code.flatMap spI ++ spT x.term, { x.term with a := 0 }⟩) := rfl
  generalize spB x = sp at *
  obtain ⟨xs, ⟨k, ta, tt, el⟩⟩ := x
  have e1 := HSP.out
  subst e1
  clear HSP
  dsimp only at *
  obtain ⟨spc, hspc⟩ : ∃ z, xs.flatMap spI ++ spT ⟨k, ta, tt, el⟩ = z := ⟨_, rfl⟩
  rw [hspc]
  have HSC := Lib.hid hspc
  clear hspc
  have HX := Lib.hid ((Row.new w 45 #[.slice A xs.length c, .int .i64 k, .int .i64 ta, .int .i64 tt, .int .i64 el]).alloc (.cells #[.slice none 0 0, .int .i64 0, .int .i64 0, .int .i64 0, .int .i64 0] 49))
  have HY := Row.new (w.alloc (.cells #[.slice A xs.length c, .int .i64 k, .int .i64 ta, .int .i64 tt, .int .i64 el] 45)) 49 #[.slice none 0 0, .int .i64 0, .int .i64 0, .int .i64 0, .int .i64 0]
  rw [show (w.alloc (.cells #[.slice A xs.length c, .int .i64 k, .int .i64 ta, .int .i64 tt, .int .i64 el] 45)).heap.size = w.heap.size + 1 by simp] at HY
  have HY := Lib.hid HY
  have hb0 : Below w.heap.size w ((w.alloc (.cells #[.slice A xs.length c, .int .i64 k, .int .i64 ta, .int .i64 tt, .int .i64 el] 45)).alloc (.cells #[.slice none 0 0, .int .i64 0, .int .i64 0, .int .i64 0, .int .i64 0] 49)) := ((Below.refl _ _).alloc (Nat.le_refl _) _).alloc (by simp) _
  have hs0 := (hs.below hb0).more hb0.size
  have HB0 := Lib.hid hb0
  have HXS := Lib.hid hx
  have HTM := Lib.hid ht
  clear hx ht hs hb0
  go_enter Try.func14, Try.ntmps14
  go_upto_region 1 with fail
  generalize ((w.alloc (.cells #[.slice A xs.length c, .int .i64 k, .int .i64 ta, .int .i64 tt, .int .i64 el] 45)).alloc (.cells #[.slice none 0 0, .int .i64 0, .int .i64 0, .int .i64 0, .int .i64 0] 49)) = W0 at *
  obtain ⟨b1, hb1⟩ : ∃ z, w.heap.size = z := ⟨_, rfl⟩
  obtain ⟨b2, hb2⟩ : ∃ z, w.heap.size + 1 = z := ⟨_, rfl⟩
  have h12 : b1 < b2 := by omega
  have h2w : b2 < W0.heap.size := by have := HY.out.lt; omega
  have hwb : w.heap.size ≤ b2 := by omega
  rw [hb1] at HX
  rw [hb2] at HY
  rw [hb2, hb1]
  clear hb1 hb2
  go_upto_region 3 with fail
  go_loopg [3, 4] xs.length (fun g v3 v4 wr => ∃ i : Nat, i + g = xs.length ∧ v4 = .int .i64 (i : Int) ∧ Hid (RL Mi.cells 7 69 W0 v3 ((xs.take i).flatMap spI) wr))
  case atStart => exact ⟨0, by omega, by go_num, RL.nil W0⟩
  case round =>
    obtain ⟨i, hg, rfl, HP⟩ := hrel
    have hpl : ((xs.take i).flatMap spI).length ≤ 4000 := by
      have := spIs_len (xs.take i)
      rw [List.length_take] at this
      omega
    have y0 := (HX.out.below HP.out.blw (by omega)).k0
    by_cases hlt : i < xs.length
    · obtain ⟨b', o, rfl, hb, hx⟩ := (hs0.below HP.out.blw).at_ hlt
      have hin := HXS.out _ (List.getElem_mem hlt)
      have HT := Lib.hid (show xs.take (i + 1) = xs.take i ++ [xs[i]] from List.take_succ_eq_append_getElem hlt)
      have HE : Hid ((xs.take (i + 1)).flatMap spI = (xs.take i).flatMap spI ++ spI xs[i]) := by rw [Hid, HT.out, List.flatMap_append, List.flatMap_cons, List.flatMap_nil, List.append_nil]
      generalize xs[i] = x at *
      generalize (xs.take i).flatMap spI = pre at *
      obtain ⟨op, d, a, b, imm⟩ := x
      have f0 := hx.c0; have f1 := hx.c1; have f2 := hx.c2; have f3 := hx.c3; have f4 := hx.c4
      dsimp only at f0 f1 f2 f3 f4
      clear hx HT
      obtain ⟨np, hnp⟩ : ∃ z, pre.length = z := ⟨_, rfl⟩
      have HNP := Lib.hid hnp
      rw [hnp] at hpl
      clear hnp
      obtain ⟨A3, c3, e3, _, _⟩ := HP.out.sliceN HNP.out
      subst e3
      have hkz : (i : Int) < (xs.length : Int) := by omega
      go_upto_region 6 with fail
      have HX5 := Lib.hid (Row.new wr 62 #[.int .i64 op, .int .i64 d, .int .i64 a, .int .i64 b, .int .i64 imm])
      have HP5 := Lib.hid (HP.out.alloc (.cells #[.int .i64 op, .int .i64 d, .int .i64 a, .int .i64 b, .int .i64 imm] 62))
      have hxw : wr.heap.size < (wr.alloc (.cells #[.int .i64 op, .int .i64 d, .int .i64 a, .int .i64 b, .int .i64 imm] 62)).heap.size := by simp
      have hbz := HP.out.blw.size
      clear f0 f1 f2 f3 f4 HP y0
      generalize (wr.alloc (.cells #[.int .i64 op, .int .i64 d, .int .i64 a, .int .i64 b, .int .i64 imm] 62)) = W5 at *
      obtain ⟨xb, hxb⟩ : ∃ z, wr.heap.size = z := ⟨_, rfl⟩
      rw [hxb] at HX5 hxw hbz ⊢
      clear hxb
      have f0 := HX5.out.k0; have f1 := HX5.out.k1; have f2 := HX5.out.k2; have f3 := HX5.out.k3; have f4 := HX5.out.k4
      obtain ⟨ho, hra, hrb, hrd⟩ := hin
      dsimp only at ho hra hrb hrd
      by_cases h2 : op = 2
      · have e2 : (op == 2) = true := by rw [h2]; rfl
        have ha := hra (by rw [h2]; rfl)
        have hd := hrd (by rw [h2]; rfl)
        have hw1 := (twice22 ha).1; have hw2 := (twice22 ha).2; have hw3 := (twice22 hd).1; have hw4 := (twice22 hd).2
        have HS2 := Lib.hid (show spI ⟨op, d, a, b, imm⟩ = [ldM 0 a, stM d] by unfold spI; rw [if_pos h2])
        clear h2 hra hrb hrd
        go_upto_region 7 with fail
        have HG : Hid (Below W5.heap.size W5 W5.drew) := blw_drew W5 1
        go_wp2_with fail
        refine wp_region_held_drew (S := (fun w' => w'.cell? ⟨xb, 1, none⟩ = some (.int .i64 d) ∧ w'.cell? ⟨xb, 2, none⟩ = some (.int .i64 a))) (by kernel_rfl) ⟨f1, f2⟩ (fun hHeld => ?_)
        generalize hVV : W5.drew = V at *
        clear hVV
        refine take_at 0 23 (.slice A3 np c3) rfl rfl (by kernel_rfl) (by kernel_rfl) (by kernel_rfl) (fun _ _ _ h => h) (Or.inl ⟨by rfl, ?_⟩) hHeld ?_
        · intro w9 hSw
          (try dsimp only at hSw)
          go_simp
        (try simp only [Act.put, List.setIfInBounds_toArray, List.set_cons_zero, List.set_cons_succ])
        refine take_at 1 24 (.pointer (some ⟨xb, 2, none⟩)) rfl rfl (by kernel_rfl) (by kernel_rfl) (by kernel_rfl) (fun _ _ _ h => h) (Or.inl ⟨by rfl, ?_⟩) hHeld ?_
        · intro w9 hSw
          (try dsimp only at hSw)
          go_simp
        (try simp only [Act.put, List.setIfInBounds_toArray, List.set_cons_zero, List.set_cons_succ])
        refine take_at 2 25 (.int .i64 a) rfl rfl (by kernel_rfl) (by kernel_rfl) (by kernel_rfl) (fun _ _ _ h => h) (Or.inl ⟨by rfl, ?_⟩) hHeld ?_
        · intro w9 hSw
          (try dsimp only at hSw)
          go_simp
        (try simp only [Act.put, List.setIfInBounds_toArray, List.set_cons_zero, List.set_cons_succ])
        refine take_at 3 26 (.int .i64 (2 * a)) rfl rfl (by kernel_rfl) (by kernel_rfl) (by kernel_rfl) (fun _ _ _ h => h) (Or.inl ⟨by rfl, ?_⟩) hHeld ?_
        · intro w9 hSw
          (try dsimp only at hSw)
          go_simp
        (try simp only [Act.put, List.setIfInBounds_toArray, List.set_cons_zero, List.set_cons_succ])
        refine take_at 4 27 (.int .i64 (2 * a + 1)) rfl rfl (by kernel_rfl) (by kernel_rfl) (by kernel_rfl) (fun _ _ _ h => h) (Or.inl ⟨by rfl, ?_⟩) hHeld ?_
        · intro w9 hSw
          (try dsimp only at hSw)
          go_simp
        (try simp only [Act.put, List.setIfInBounds_toArray, List.set_cons_zero, List.set_cons_succ])
        refine take_at 6 29 (.pointer (some ⟨xb, 1, none⟩)) rfl rfl (by kernel_rfl) (by kernel_rfl) (by kernel_rfl) (fun _ _ _ h => h) (Or.inl ⟨by rfl, ?_⟩) hHeld ?_
        · intro w9 hSw
          (try dsimp only at hSw)
          go_simp
        (try simp only [Act.put, List.setIfInBounds_toArray, List.set_cons_zero, List.set_cons_succ])
        refine take_at 7 30 (.int .i64 d) rfl rfl (by kernel_rfl) (by kernel_rfl) (by kernel_rfl) (fun _ _ _ h => h) (Or.inl ⟨by rfl, ?_⟩) hHeld ?_
        · intro w9 hSw
          (try dsimp only at hSw)
          go_simp
        (try simp only [Act.put, List.setIfInBounds_toArray, List.set_cons_zero, List.set_cons_succ])
        refine take_at 8 31 (.int .i64 (2 * d)) rfl rfl (by kernel_rfl) (by kernel_rfl) (by kernel_rfl) (fun _ _ _ h => h) (Or.inl ⟨by rfl, ?_⟩) hHeld ?_
        · intro w9 hSw
          (try dsimp only at hSw)
          go_simp
        (try simp only [Act.put, List.setIfInBounds_toArray, List.set_cons_zero, List.set_cons_succ])
        refine take_at 9 32 (.int .i64 (2 * d + 1)) rfl rfl (by kernel_rfl) (by kernel_rfl) (by kernel_rfl) (fun _ _ _ h => h) (Or.inl ⟨by rfl, ?_⟩) hHeld ?_
        · intro w9 hSw
          (try dsimp only at hSw)
          go_simp
        (try simp only [Act.put, List.setIfInBounds_toArray, List.set_cons_zero, List.set_cons_succ])
        repeat' (first
          | exact AllReadyH.nil
          | (refine AllReadyH.cons (i := 5) rfl (fun K hK => ?_) ?_; focus (go_simp; refine (rmove22 0 (2 * a + 1) _).mono ?_; rintro e V ⟨rfl, hg⟩; (try go_wp2_with fail); replace HG := Lib.hid (HG.out.trans (hg.below.mono HG.out.size)); refine hK.out _ _ ⟨(HX5.out.below HG.out HX5.out.lt).k1, (HX5.out.below HG.out HX5.out.lt).k2⟩ (fun hHeld => ?_); clear hK K; clear hg))
          | (refine AllReadyH.cons (i := 10) rfl (fun K hK => ?_) ?_; focus (go_simp; refine (rmove22 (2 * d + 1) 0 _).mono ?_; rintro e V ⟨rfl, hg⟩; (try go_wp2_with fail); replace HG := Lib.hid (HG.out.trans (hg.below.mono HG.out.size)); refine hK.out _ _ ⟨(HX5.out.below HG.out HX5.out.lt).k1, (HX5.out.below HG.out HX5.out.lt).k2⟩ (fun hHeld => ?_); clear hK K; clear hg))
          | (refine AllReadyH.cons (i := 11) rfl (fun K hK => ?_) ?_; focus (go_simp; have HS := Lib.hid (sees_new V #[.int .i64 18, .int .i64 0, .int .i64 0, .int .i64 0, .int .i64 0, .int .i64 (0), .int .i64 (2 * a + 1), .int .i64 18, .int .i64 0, .int .i64 0, .int .i64 0, .int .i64 0, .int .i64 (2 * d + 1), .int .i64 (0)] 69); replace HG := Lib.hid (HG.out.alloc HG.out.size (.cells #[.int .i64 18, .int .i64 0, .int .i64 0, .int .i64 0, .int .i64 0, .int .i64 (0), .int .i64 (2 * a + 1), .int .i64 18, .int .i64 0, .int .i64 0, .int .i64 0, .int .i64 0, .int .i64 (2 * d + 1), .int .i64 (0)] 69)); refine hK.out _ _ ⟨(HX5.out.below HG.out HX5.out.lt).k1, (HX5.out.below HG.out HX5.out.lt).k2⟩ (fun hHeld => ?_); clear hK K; generalize V.heap.size = g0 at *; generalize V.alloc (.cells #[.int .i64 18, .int .i64 0, .int .i64 0, .int .i64 0, .int .i64 0, .int .i64 (0), .int .i64 (2 * a + 1), .int .i64 18, .int .i64 0, .int .i64 0, .int .i64 0, .int .i64 0, .int .i64 (2 * d + 1), .int .i64 (0)] 69) = V at *))
          | (refine AllReadyH.cons (i := 12) rfl (fun K hK => ?_) ?_; focus (have hrl := HP5.out.next HG.out; have hown := hrl.own; rw [HNP.out] at hown; have hbw9 := hrl.blw.size; refine step_append_any _ rfl (.tmp 23) (.tmp 34) 47 rfl W0.heap.size 69 i0 _ 7 56 Try.underlying47 hi0 hz0 hz1 hz2 rfl (by decide) _ np _ rfl hown _ _ 2 2 (([ldM 0 a, stM d] : List Mi).flatMap Mi.cells) rfl HS.out rfl (mio22 _) (by unfold maxLen; omega) (by omega) hbw9 ?_; intro v9 W9 ho2 hg2 hb2; (try dsimp only); have HP9 := Lib.hid (hrl.join (r := [ldM 0 a, stM d]) HNP.out rfl ho2 hg2); have hx9 := (HX5.out.below HG.out HX5.out.lt).ty (grown_ty hown hg2) (by decide); refine hK.out _ _ ⟨hx9.k1, hx9.k2⟩ (fun hHeld => ?_); clear hK K hrl hown hbw9 ho2 hg2 hb2 hx9; refine take_at 13 3 (v9) rfl rfl (by kernel_rfl) (by kernel_rfl) (by kernel_rfl) (fun _ _ _ h => h) (Or.inl ⟨by rfl, by (intro w9 hSw; (try dsimp only at hSw); go_simp)⟩) hHeld ?_; (try simp only [Act.put, List.setIfInBounds_toArray, List.set_cons_zero, List.set_cons_succ])))
          | refine wpAnyH_ready (rs := [5, 10]) (by decide +kernel) (by simp) ?_
          | refine wpAnyH_ready (rs := [5]) (by decide +kernel) (by simp) ?_
          | refine wpAnyH_ready (rs := [10]) (by decide +kernel) (by simp) ?_
          | refine wpAnyH_ready (rs := [11]) (by decide +kernel) (by simp) ?_
          | refine wpAnyH_ready (rs := [12]) (by decide +kernel) (by simp) ?_
          | (refine wpAnyH_done (by decide +kernel) ?_ _; clear hHeld; go_wp2; go_roundg (xs.length - (i + 1)); all_goals (first | omega | exact ⟨i + 1, by omega, by go_num, by show RL _ _ _ _ _ _ _; rw [HE.out, HS2.out]; exact HP9.out⟩)))
      · have e2 : (op == 2) = false := by simp [h2]
        have HS2 := Lib.hid (show spI ⟨op, d, a, b, imm⟩ = spO ⟨op, d, a, b, imm⟩ by unfold spI; rw [if_neg h2])
        clear hs0
        go_upto_region 9 with fail
        have HQ : Hid (QB W0 xb W5.heap.size #[.int .i64 op, .int .i64 d, .int .i64 a, .int .i64 b, .int .i64 imm] #[.int .i64 op, .int .i64 0, .int .i64 0, .int .i64 0, .int .i64 imm, .int .i64 0, .int .i64 0] (.slice A3 np c3) pre (W5.alloc (.cells #[.int .i64 op, .int .i64 0, .int .i64 0, .int .i64 0, .int .i64 imm, .int .i64 0, .int .i64 0] 69))) :=
          ⟨HP5.out.alloc _, HX5.out.alloc _, Row.new _ _ _, fun k hk => by have := (ownS_lt HP5.out.own k hk).2; omega, by omega, by omega⟩
        clear HP5 HX5 f0 f1 f2 f3 f4
        generalize (W5.alloc (.cells #[.int .i64 op, .int .i64 0, .int .i64 0, .int .i64 0, .int .i64 imm, .int .i64 0, .int .i64 0] 69)) = W6 at *
        generalize W5.heap.size = mb at *
        clear hxw hbz
        rcases (by omega : op = 1 ∨ (3 ≤ op ∧ op ≤ 4) ∨ (5 ≤ op ∧ op ≤ 16) ∨ op = 17) with q | q | q | q
        · have eA : uA op = false := decide_eq_false (by omega)
          have eB : uB op = false := decide_eq_false (by omega)
          have eD : uD op = true := decide_eq_true (by omega)
          have HS3 := Lib.hid (show spO ⟨op, d, a, b, imm⟩ = [⟨op, 0, 0, 0, imm, 0, 0⟩, stM d] by unfold spO spA spBb spD opM; dsimp only; rw [eA, eB, eD]; rfl)
          have hd := hrd eD
          have hwd1 := (twice22 hd).1; have hwd2 := (twice22 hd).2
          have CA := Lib.hid fun W => rusesA_any op false W eA
          have CB := Lib.hid fun W => rusesB_any op false W eB
          have CD := Lib.hid fun W => rusesD_any op true W eD
          clear eA eB eD hra hrb hrd h2 ho q
          have f0 := HQ.out.x.k0
          go_wp2_with fail
          refine (CA.out _).mono ?_
          rintro e Wu ⟨rfl, rfl⟩
          clear f0
          go_upto_region 11 with fail
          have f0 := HQ.out.x.k0
          go_wp2_with fail
          refine (CB.out _).mono ?_
          rintro e Wu ⟨rfl, rfl⟩
          clear f0
          go_upto_region 14 with fail
          have m0 := HQ.out.m.k0; have m1 := HQ.out.m.k1; have m2 := HQ.out.m.k2; have m3 := HQ.out.m.k3; have m4 := HQ.out.m.k4; have m5 := HQ.out.m.k5; have m6 := HQ.out.m.k6
          have hown := (HQ.out.alloc (.cells #[.int .i64 op, .int .i64 0, .int .i64 0, .int .i64 0, .int .i64 imm, .int .i64 0, .int .i64 0] 69)).rl.own
          rw [HNP.out] at hown
          have hnew := sees_new W6 #[.int .i64 op, .int .i64 0, .int .i64 0, .int .i64 0, .int .i64 imm, .int .i64 0, .int .i64 0] 69
          have hbw9 := HQ.out.rl.blw.size
          have hbw8 : W0.heap.size ≤ W6.heap.size + 1 := by omega
          go_wp2_with (at_builtin; refine wpList_append_any _ rfl (.tmp 64) (.tmp 66) 47 rfl W0.heap.size 69 i0 _ 7 56 Try.underlying47 hi0 hz0 hz1 hz2 rfl (by decide) _ _ _ rfl hown (W6.heap.size + 1) _ 1 1 (Mi.cells ⟨op, 0, 0, 0, imm, 0, 0⟩) rfl hnew rfl (mi1_22 _) ?ca1 ?cb1 ?cc1 ?_)
          case ca1 => unfold maxLen; omega
          case cb1 => omega
          (try (case cc1 => first | exact hbw8 | (simp; omega)))
          intro v9 X1 ho2 hg2 hb2
          have HQ2 := Lib.hid ((HQ.out.alloc (.cells #[.int .i64 op, .int .i64 0, .int .i64 0, .int .i64 0, .int .i64 imm, .int .i64 0, .int .i64 0] 69)).snoc ⟨op, 0, 0, 0, imm, 0, 0⟩ HNP.out ho2 hg2 (by simpa using hb2))
          obtain ⟨n1, hn1⟩ : ∃ z, np + 1 = z := ⟨_, rfl⟩
          rw [hn1] at ho2
          obtain ⟨A1x, c1x, rfl, _, _⟩ := ownS_slice ho2
          replace HNP := Lib.hid (show (pre ++ ([⟨op, 0, 0, 0, imm, 0, 0⟩] : List Mi)).length = n1 by rw [List.length_append, HNP.out, ← hn1]; rfl)
          have hpl1 : n1 ≤ 4000 + 1 := by omega
          obtain ⟨pre1, hpre⟩ : ∃ z, pre ++ ([⟨op, 0, 0, 0, imm, 0, 0⟩] : List Mi) = z := ⟨_, rfl⟩
          rw [hpre] at HQ2 HNP
          have HPR1 := Lib.hid hpre
          clear hown hnew hbw9 hbw8 ho2 hg2 hb2 HQ hn1 hpre m0 m1 m2 m3 m4 m5 m6
          have HQ := HQ2
          clear HQ2
          go_upto_region 15 with fail
          have f0 := HQ.out.x.k0
          go_wp2_with fail
          refine (CD.out _).mono ?_
          rintro e Wu ⟨rfl, rfl⟩
          clear f0
          go_upto_region 16 with fail
          have f9 := HQ.out.x.k1
          go_wp2_with fail
          refine (rmove22 (2 * d + 1) 0 _).mono ?_
          rintro e V2 ⟨rfl, hg⟩
          replace HQ := Lib.hid (HQ.out.grew hg)
          clear hg f9
          have hown := (HQ.out.alloc (.cells #[.int .i64 18, .int .i64 0, .int .i64 0, .int .i64 0, .int .i64 0, .int .i64 (2 * d + 1), .int .i64 (0)] 69)).rl.own
          rw [HNP.out] at hown
          have hnew := sees_new V2 #[.int .i64 18, .int .i64 0, .int .i64 0, .int .i64 0, .int .i64 0, .int .i64 (2 * d + 1), .int .i64 (0)] 69
          have hbw9 := HQ.out.rl.blw.size
          have hbw8 : W0.heap.size ≤ V2.heap.size + 1 := by omega
          go_wp2_with (at_builtin; refine wpList_append_any _ rfl (.tmp 71) (.tmp 77) 47 rfl W0.heap.size 69 i0 _ 7 56 Try.underlying47 hi0 hz0 hz1 hz2 rfl (by decide) _ _ _ rfl hown (V2.heap.size + 1) _ 1 1 (Mi.cells (stM d)) rfl hnew rfl (mi1_22 _) ?ca2 ?cb2 ?cc2 ?_)
          case ca2 => unfold maxLen; omega
          case cb2 => omega
          (try (case cc2 => first | exact hbw8 | (simp; omega)))
          intro v9 X2 ho2 hg2 hb2
          have HQ2 := Lib.hid ((HQ.out.alloc (.cells #[.int .i64 18, .int .i64 0, .int .i64 0, .int .i64 0, .int .i64 0, .int .i64 (2 * d + 1), .int .i64 (0)] 69)).snoc (stM d) HNP.out ho2 hg2 (by simpa using hb2))
          obtain ⟨n2, hn1⟩ : ∃ z, n1 + 1 = z := ⟨_, rfl⟩
          rw [hn1] at ho2
          obtain ⟨A2x, c2x, rfl, _, _⟩ := ownS_slice ho2
          replace HNP := Lib.hid (show (pre1 ++ ([(stM d)] : List Mi)).length = n2 by rw [List.length_append, HNP.out, ← hn1]; rfl)
          have hpl2 : n2 ≤ 4000 + 2 := by omega
          obtain ⟨pre2, hpre⟩ : ∃ z, pre1 ++ ([(stM d)] : List Mi) = z := ⟨_, rfl⟩
          rw [hpre] at HQ2 HNP
          have HPR2 := Lib.hid hpre
          clear hown hnew hbw9 hbw8 ho2 hg2 hb2 HQ hn1 hpre
          have HQ := HQ2
          clear HQ2
          go_wp2
          go_roundg (xs.length - (i + 1))
          case measure => omega
          case rel => exact ⟨i + 1, by omega, by go_num, by
            show RL _ _ _ _ _ _ _
            rw [HE.out, HS2.out, HS3.out]
            have := HQ.out.rl
            rw [← HPR2.out, ← HPR1.out] at this
            simp only [List.append_assoc, List.cons_append, List.nil_append] at this
            exact this⟩
        · have eA : uA op = true := decide_eq_true (by omega)
          have eB : uB op = false := decide_eq_false (by omega)
          have eD : uD op = true := decide_eq_true (by omega)
          have HS3 := Lib.hid (show spO ⟨op, d, a, b, imm⟩ = [ldM 0 a, ⟨op, 0, 0, 0, imm, 0, 0⟩, stM d] by unfold spO spA spBb spD opM; dsimp only; rw [eA, eB, eD]; rfl)
          have ha := hra eA
          have hwa1 := (twice22 ha).1; have hwa2 := (twice22 ha).2
          have hd := hrd eD
          have hwd1 := (twice22 hd).1; have hwd2 := (twice22 hd).2
          have CA := Lib.hid fun W => rusesA_any op true W eA
          have CB := Lib.hid fun W => rusesB_any op false W eB
          have CD := Lib.hid fun W => rusesD_any op true W eD
          clear eA eB eD hra hrb hrd h2 ho q
          have f0 := HQ.out.x.k0
          go_wp2_with fail
          refine (CA.out _).mono ?_
          rintro e Wu ⟨rfl, rfl⟩
          clear f0
          go_upto_region 10 with fail
          have f9 := HQ.out.x.k2
          go_wp2_with fail
          refine (rmove22 0 (2 * a + 1) _).mono ?_
          rintro e V1 ⟨rfl, hg⟩
          replace HQ := Lib.hid (HQ.out.grew hg)
          clear hg f9
          have hown := (HQ.out.alloc (.cells #[.int .i64 18, .int .i64 0, .int .i64 0, .int .i64 0, .int .i64 0, .int .i64 (0), .int .i64 (2 * a + 1)] 69)).rl.own
          rw [HNP.out] at hown
          have hnew := sees_new V1 #[.int .i64 18, .int .i64 0, .int .i64 0, .int .i64 0, .int .i64 0, .int .i64 (0), .int .i64 (2 * a + 1)] 69
          have hbw9 := HQ.out.rl.blw.size
          have hbw8 : W0.heap.size ≤ V1.heap.size + 1 := by omega
          go_wp2_with (at_builtin; refine wpList_append_any _ rfl (.tmp 44) (.tmp 50) 47 rfl W0.heap.size 69 i0 _ 7 56 Try.underlying47 hi0 hz0 hz1 hz2 rfl (by decide) _ _ _ rfl hown (V1.heap.size + 1) _ 1 1 (Mi.cells (ldM 0 a)) rfl hnew rfl (mi1_22 _) ?ca3 ?cb3 ?cc3 ?_)
          case ca3 => unfold maxLen; omega
          case cb3 => omega
          (try (case cc3 => first | exact hbw8 | (simp; omega)))
          intro v9 X1 ho2 hg2 hb2
          have HQ2 := Lib.hid ((HQ.out.alloc (.cells #[.int .i64 18, .int .i64 0, .int .i64 0, .int .i64 0, .int .i64 0, .int .i64 (0), .int .i64 (2 * a + 1)] 69)).snoc (ldM 0 a) HNP.out ho2 hg2 (by simpa using hb2))
          obtain ⟨n1, hn1⟩ : ∃ z, np + 1 = z := ⟨_, rfl⟩
          rw [hn1] at ho2
          obtain ⟨A1x, c1x, rfl, _, _⟩ := ownS_slice ho2
          replace HNP := Lib.hid (show (pre ++ ([(ldM 0 a)] : List Mi)).length = n1 by rw [List.length_append, HNP.out, ← hn1]; rfl)
          have hpl1 : n1 ≤ 4000 + 1 := by omega
          obtain ⟨pre1, hpre⟩ : ∃ z, pre ++ ([(ldM 0 a)] : List Mi) = z := ⟨_, rfl⟩
          rw [hpre] at HQ2 HNP
          have HPR1 := Lib.hid hpre
          clear hown hnew hbw9 hbw8 ho2 hg2 hb2 HQ hn1 hpre
          have HQ := HQ2
          clear HQ2
          go_upto_region 11 with fail
          have f0 := HQ.out.x.k0
          go_wp2_with fail
          refine (CB.out _).mono ?_
          rintro e Wu ⟨rfl, rfl⟩
          clear f0
          go_upto_region 14 with fail
          have m0 := HQ.out.m.k0; have m1 := HQ.out.m.k1; have m2 := HQ.out.m.k2; have m3 := HQ.out.m.k3; have m4 := HQ.out.m.k4; have m5 := HQ.out.m.k5; have m6 := HQ.out.m.k6
          have hown := (HQ.out.alloc (.cells #[.int .i64 op, .int .i64 0, .int .i64 0, .int .i64 0, .int .i64 imm, .int .i64 0, .int .i64 0] 69)).rl.own
          rw [HNP.out] at hown
          have hnew := sees_new X1 #[.int .i64 op, .int .i64 0, .int .i64 0, .int .i64 0, .int .i64 imm, .int .i64 0, .int .i64 0] 69
          have hbw9 := HQ.out.rl.blw.size
          have hbw8 : W0.heap.size ≤ X1.heap.size + 1 := by omega
          go_wp2_with (at_builtin; refine wpList_append_any _ rfl (.tmp 64) (.tmp 66) 47 rfl W0.heap.size 69 i0 _ 7 56 Try.underlying47 hi0 hz0 hz1 hz2 rfl (by decide) _ _ _ rfl hown (X1.heap.size + 1) _ 1 1 (Mi.cells ⟨op, 0, 0, 0, imm, 0, 0⟩) rfl hnew rfl (mi1_22 _) ?ca4 ?cb4 ?cc4 ?_)
          case ca4 => unfold maxLen; omega
          case cb4 => omega
          (try (case cc4 => first | exact hbw8 | (simp; omega)))
          intro v9 X2 ho2 hg2 hb2
          have HQ2 := Lib.hid ((HQ.out.alloc (.cells #[.int .i64 op, .int .i64 0, .int .i64 0, .int .i64 0, .int .i64 imm, .int .i64 0, .int .i64 0] 69)).snoc ⟨op, 0, 0, 0, imm, 0, 0⟩ HNP.out ho2 hg2 (by simpa using hb2))
          obtain ⟨n2, hn1⟩ : ∃ z, n1 + 1 = z := ⟨_, rfl⟩
          rw [hn1] at ho2
          obtain ⟨A2x, c2x, rfl, _, _⟩ := ownS_slice ho2
          replace HNP := Lib.hid (show (pre1 ++ ([⟨op, 0, 0, 0, imm, 0, 0⟩] : List Mi)).length = n2 by rw [List.length_append, HNP.out, ← hn1]; rfl)
          have hpl2 : n2 ≤ 4000 + 2 := by omega
          obtain ⟨pre2, hpre⟩ : ∃ z, pre1 ++ ([⟨op, 0, 0, 0, imm, 0, 0⟩] : List Mi) = z := ⟨_, rfl⟩
          rw [hpre] at HQ2 HNP
          have HPR2 := Lib.hid hpre
          clear hown hnew hbw9 hbw8 ho2 hg2 hb2 HQ hn1 hpre m0 m1 m2 m3 m4 m5 m6
          have HQ := HQ2
          clear HQ2
          go_upto_region 15 with fail
          have f0 := HQ.out.x.k0
          go_wp2_with fail
          refine (CD.out _).mono ?_
          rintro e Wu ⟨rfl, rfl⟩
          clear f0
          go_upto_region 16 with fail
          have f9 := HQ.out.x.k1
          go_wp2_with fail
          refine (rmove22 (2 * d + 1) 0 _).mono ?_
          rintro e V3 ⟨rfl, hg⟩
          replace HQ := Lib.hid (HQ.out.grew hg)
          clear hg f9
          have hown := (HQ.out.alloc (.cells #[.int .i64 18, .int .i64 0, .int .i64 0, .int .i64 0, .int .i64 0, .int .i64 (2 * d + 1), .int .i64 (0)] 69)).rl.own
          rw [HNP.out] at hown
          have hnew := sees_new V3 #[.int .i64 18, .int .i64 0, .int .i64 0, .int .i64 0, .int .i64 0, .int .i64 (2 * d + 1), .int .i64 (0)] 69
          have hbw9 := HQ.out.rl.blw.size
          have hbw8 : W0.heap.size ≤ V3.heap.size + 1 := by omega
          go_wp2_with (at_builtin; refine wpList_append_any _ rfl (.tmp 71) (.tmp 77) 47 rfl W0.heap.size 69 i0 _ 7 56 Try.underlying47 hi0 hz0 hz1 hz2 rfl (by decide) _ _ _ rfl hown (V3.heap.size + 1) _ 1 1 (Mi.cells (stM d)) rfl hnew rfl (mi1_22 _) ?ca5 ?cb5 ?cc5 ?_)
          case ca5 => unfold maxLen; omega
          case cb5 => omega
          (try (case cc5 => first | exact hbw8 | (simp; omega)))
          intro v9 X3 ho2 hg2 hb2
          have HQ2 := Lib.hid ((HQ.out.alloc (.cells #[.int .i64 18, .int .i64 0, .int .i64 0, .int .i64 0, .int .i64 0, .int .i64 (2 * d + 1), .int .i64 (0)] 69)).snoc (stM d) HNP.out ho2 hg2 (by simpa using hb2))
          obtain ⟨n3, hn1⟩ : ∃ z, n2 + 1 = z := ⟨_, rfl⟩
          rw [hn1] at ho2
          obtain ⟨A3x, c3x, rfl, _, _⟩ := ownS_slice ho2
          replace HNP := Lib.hid (show (pre2 ++ ([(stM d)] : List Mi)).length = n3 by rw [List.length_append, HNP.out, ← hn1]; rfl)
          have hpl3 : n3 ≤ 4000 + 3 := by omega
          obtain ⟨pre3, hpre⟩ : ∃ z, pre2 ++ ([(stM d)] : List Mi) = z := ⟨_, rfl⟩
          rw [hpre] at HQ2 HNP
          have HPR3 := Lib.hid hpre
          clear hown hnew hbw9 hbw8 ho2 hg2 hb2 HQ hn1 hpre
          have HQ := HQ2
          clear HQ2
          go_wp2
          go_roundg (xs.length - (i + 1))
          case measure => omega
          case rel => exact ⟨i + 1, by omega, by go_num, by
            show RL _ _ _ _ _ _ _
            rw [HE.out, HS2.out, HS3.out]
            have := HQ.out.rl
            rw [← HPR3.out, ← HPR2.out, ← HPR1.out] at this
            simp only [List.append_assoc, List.cons_append, List.nil_append] at this
            exact this⟩
        · have eA : uA op = true := decide_eq_true (by omega)
          have eB : uB op = true := decide_eq_true (by omega)
          have eD : uD op = true := decide_eq_true (by omega)
          have HS3 := Lib.hid (show spO ⟨op, d, a, b, imm⟩ = [ldM 0 a, ldM 1 b, ⟨op, 0, 0, 1, imm, 0, 0⟩, stM d] by unfold spO spA spBb spD opM; dsimp only; rw [eA, eB, eD]; rfl)
          have ha := hra eA
          have hwa1 := (twice22 ha).1; have hwa2 := (twice22 ha).2
          have hb := hrb eB
          have hwb1 := (twice22 hb).1; have hwb2 := (twice22 hb).2
          have hd := hrd eD
          have hwd1 := (twice22 hd).1; have hwd2 := (twice22 hd).2
          have CA := Lib.hid fun W => rusesA_any op true W eA
          have CB := Lib.hid fun W => rusesB_any op true W eB
          have CD := Lib.hid fun W => rusesD_any op true W eD
          clear eA eB eD hra hrb hrd h2 ho q
          have f0 := HQ.out.x.k0
          go_wp2_with fail
          refine (CA.out _).mono ?_
          rintro e Wu ⟨rfl, rfl⟩
          clear f0
          go_upto_region 10 with fail
          have f9 := HQ.out.x.k2
          go_wp2_with fail
          refine (rmove22 0 (2 * a + 1) _).mono ?_
          rintro e V1 ⟨rfl, hg⟩
          replace HQ := Lib.hid (HQ.out.grew hg)
          clear hg f9
          have hown := (HQ.out.alloc (.cells #[.int .i64 18, .int .i64 0, .int .i64 0, .int .i64 0, .int .i64 0, .int .i64 (0), .int .i64 (2 * a + 1)] 69)).rl.own
          rw [HNP.out] at hown
          have hnew := sees_new V1 #[.int .i64 18, .int .i64 0, .int .i64 0, .int .i64 0, .int .i64 0, .int .i64 (0), .int .i64 (2 * a + 1)] 69
          have hbw9 := HQ.out.rl.blw.size
          have hbw8 : W0.heap.size ≤ V1.heap.size + 1 := by omega
          go_wp2_with (at_builtin; refine wpList_append_any _ rfl (.tmp 44) (.tmp 50) 47 rfl W0.heap.size 69 i0 _ 7 56 Try.underlying47 hi0 hz0 hz1 hz2 rfl (by decide) _ _ _ rfl hown (V1.heap.size + 1) _ 1 1 (Mi.cells (ldM 0 a)) rfl hnew rfl (mi1_22 _) ?ca6 ?cb6 ?cc6 ?_)
          case ca6 => unfold maxLen; omega
          case cb6 => omega
          (try (case cc6 => first | exact hbw8 | (simp; omega)))
          intro v9 X1 ho2 hg2 hb2
          have HQ2 := Lib.hid ((HQ.out.alloc (.cells #[.int .i64 18, .int .i64 0, .int .i64 0, .int .i64 0, .int .i64 0, .int .i64 (0), .int .i64 (2 * a + 1)] 69)).snoc (ldM 0 a) HNP.out ho2 hg2 (by simpa using hb2))
          obtain ⟨n1, hn1⟩ : ∃ z, np + 1 = z := ⟨_, rfl⟩
          rw [hn1] at ho2
          obtain ⟨A1x, c1x, rfl, _, _⟩ := ownS_slice ho2
          replace HNP := Lib.hid (show (pre ++ ([(ldM 0 a)] : List Mi)).length = n1 by rw [List.length_append, HNP.out, ← hn1]; rfl)
          have hpl1 : n1 ≤ 4000 + 1 := by omega
          obtain ⟨pre1, hpre⟩ : ∃ z, pre ++ ([(ldM 0 a)] : List Mi) = z := ⟨_, rfl⟩
          rw [hpre] at HQ2 HNP
          have HPR1 := Lib.hid hpre
          clear hown hnew hbw9 hbw8 ho2 hg2 hb2 HQ hn1 hpre
          have HQ := HQ2
          clear HQ2
          go_upto_region 11 with fail
          have f0 := HQ.out.x.k0
          go_wp2_with fail
          refine (CB.out _).mono ?_
          rintro e Wu ⟨rfl, rfl⟩
          clear f0
          go_upto_region 12 with fail
          have f9 := HQ.out.x.k3
          go_wp2_with fail
          refine (rmove22 2 (2 * b + 1) _).mono ?_
          rintro e V2 ⟨rfl, hg⟩
          replace HQ := Lib.hid (HQ.out.grew hg)
          clear hg f9
          have hown := (HQ.out.alloc (.cells #[.int .i64 18, .int .i64 0, .int .i64 0, .int .i64 0, .int .i64 0, .int .i64 (2), .int .i64 (2 * b + 1)] 69)).rl.own
          rw [HNP.out] at hown
          have hnew := sees_new V2 #[.int .i64 18, .int .i64 0, .int .i64 0, .int .i64 0, .int .i64 0, .int .i64 (2), .int .i64 (2 * b + 1)] 69
          have hbw9 := HQ.out.rl.blw.size
          have hbw8 : W0.heap.size ≤ V2.heap.size + 1 := by omega
          go_wp2_with (at_builtin; refine wpList_append_any _ rfl (.tmp 55) (.tmp 61) 47 rfl W0.heap.size 69 i0 _ 7 56 Try.underlying47 hi0 hz0 hz1 hz2 rfl (by decide) _ _ _ rfl hown (V2.heap.size + 1) _ 1 1 (Mi.cells (ldM 1 b)) rfl hnew rfl (mi1_22 _) ?ca7 ?cb7 ?cc7 ?_)
          case ca7 => unfold maxLen; omega
          case cb7 => omega
          (try (case cc7 => first | exact hbw8 | (simp; omega)))
          intro v9 X2 ho2 hg2 hb2
          have HQ2 := Lib.hid ((HQ.out.alloc (.cells #[.int .i64 18, .int .i64 0, .int .i64 0, .int .i64 0, .int .i64 0, .int .i64 (2), .int .i64 (2 * b + 1)] 69)).snoc (ldM 1 b) HNP.out ho2 hg2 (by simpa using hb2))
          obtain ⟨n2, hn1⟩ : ∃ z, n1 + 1 = z := ⟨_, rfl⟩
          rw [hn1] at ho2
          obtain ⟨A2x, c2x, rfl, _, _⟩ := ownS_slice ho2
          replace HNP := Lib.hid (show (pre1 ++ ([(ldM 1 b)] : List Mi)).length = n2 by rw [List.length_append, HNP.out, ← hn1]; rfl)
          have hpl2 : n2 ≤ 4000 + 2 := by omega
          obtain ⟨pre2, hpre⟩ : ∃ z, pre1 ++ ([(ldM 1 b)] : List Mi) = z := ⟨_, rfl⟩
          rw [hpre] at HQ2 HNP
          have HPR2 := Lib.hid hpre
          clear hown hnew hbw9 hbw8 ho2 hg2 hb2 HQ hn1 hpre
          have HQ := HQ2
          clear HQ2
          have m3 := HQ.out.m.k3; have g3 := HQ.out.m.frozen 3
          go_upto_region 14 with fail
          replace HQ := Lib.hid (HQ.out.put 3 (.int .i64 1))
          clear m3 g3
          generalize (World.setCell _ ⟨mb, 3, none⟩ (.int .i64 1)) = Y2 at *
          have m0 := HQ.out.m.k0; have m1 := HQ.out.m.k1; have m2 := HQ.out.m.k2; have m3 := HQ.out.m.k3; have m4 := HQ.out.m.k4; have m5 := HQ.out.m.k5; have m6 := HQ.out.m.k6
          have hown := (HQ.out.alloc (.cells #[.int .i64 op, .int .i64 0, .int .i64 0, .int .i64 1, .int .i64 imm, .int .i64 0, .int .i64 0] 69)).rl.own
          rw [HNP.out] at hown
          have hnew := sees_new Y2 #[.int .i64 op, .int .i64 0, .int .i64 0, .int .i64 1, .int .i64 imm, .int .i64 0, .int .i64 0] 69
          have hbw9 := HQ.out.rl.blw.size
          have hbw8 : W0.heap.size ≤ Y2.heap.size + 1 := by omega
          go_wp2_with (at_builtin; refine wpList_append_any _ rfl (.tmp 64) (.tmp 66) 47 rfl W0.heap.size 69 i0 _ 7 56 Try.underlying47 hi0 hz0 hz1 hz2 rfl (by decide) _ _ _ rfl hown (Y2.heap.size + 1) _ 1 1 (Mi.cells ⟨op, 0, 0, 1, imm, 0, 0⟩) rfl hnew rfl (mi1_22 _) ?ca8 ?cb8 ?cc8 ?_)
          case ca8 => unfold maxLen; omega
          case cb8 => omega
          (try (case cc8 => first | exact hbw8 | (simp; omega)))
          intro v9 X3 ho2 hg2 hb2
          have HQ2 := Lib.hid ((HQ.out.alloc (.cells #[.int .i64 op, .int .i64 0, .int .i64 0, .int .i64 1, .int .i64 imm, .int .i64 0, .int .i64 0] 69)).snoc ⟨op, 0, 0, 1, imm, 0, 0⟩ HNP.out ho2 hg2 (by simpa using hb2))
          obtain ⟨n3, hn1⟩ : ∃ z, n2 + 1 = z := ⟨_, rfl⟩
          rw [hn1] at ho2
          obtain ⟨A3x, c3x, rfl, _, _⟩ := ownS_slice ho2
          replace HNP := Lib.hid (show (pre2 ++ ([⟨op, 0, 0, 1, imm, 0, 0⟩] : List Mi)).length = n3 by rw [List.length_append, HNP.out, ← hn1]; rfl)
          have hpl3 : n3 ≤ 4000 + 3 := by omega
          obtain ⟨pre3, hpre⟩ : ∃ z, pre2 ++ ([⟨op, 0, 0, 1, imm, 0, 0⟩] : List Mi) = z := ⟨_, rfl⟩
          rw [hpre] at HQ2 HNP
          have HPR3 := Lib.hid hpre
          clear hown hnew hbw9 hbw8 ho2 hg2 hb2 HQ hn1 hpre m0 m1 m2 m3 m4 m5 m6
          have HQ := HQ2
          clear HQ2
          go_upto_region 15 with fail
          have f0 := HQ.out.x.k0
          go_wp2_with fail
          refine (CD.out _).mono ?_
          rintro e Wu ⟨rfl, rfl⟩
          clear f0
          go_upto_region 16 with fail
          have f9 := HQ.out.x.k1
          go_wp2_with fail
          refine (rmove22 (2 * d + 1) 0 _).mono ?_
          rintro e V4 ⟨rfl, hg⟩
          replace HQ := Lib.hid (HQ.out.grew hg)
          clear hg f9
          have hown := (HQ.out.alloc (.cells #[.int .i64 18, .int .i64 0, .int .i64 0, .int .i64 0, .int .i64 0, .int .i64 (2 * d + 1), .int .i64 (0)] 69)).rl.own
          rw [HNP.out] at hown
          have hnew := sees_new V4 #[.int .i64 18, .int .i64 0, .int .i64 0, .int .i64 0, .int .i64 0, .int .i64 (2 * d + 1), .int .i64 (0)] 69
          have hbw9 := HQ.out.rl.blw.size
          have hbw8 : W0.heap.size ≤ V4.heap.size + 1 := by omega
          go_wp2_with (at_builtin; refine wpList_append_any _ rfl (.tmp 71) (.tmp 77) 47 rfl W0.heap.size 69 i0 _ 7 56 Try.underlying47 hi0 hz0 hz1 hz2 rfl (by decide) _ _ _ rfl hown (V4.heap.size + 1) _ 1 1 (Mi.cells (stM d)) rfl hnew rfl (mi1_22 _) ?ca9 ?cb9 ?cc9 ?_)
          case ca9 => unfold maxLen; omega
          case cb9 => omega
          (try (case cc9 => first | exact hbw8 | (simp; omega)))
          intro v9 X4 ho2 hg2 hb2
          have HQ2 := Lib.hid ((HQ.out.alloc (.cells #[.int .i64 18, .int .i64 0, .int .i64 0, .int .i64 0, .int .i64 0, .int .i64 (2 * d + 1), .int .i64 (0)] 69)).snoc (stM d) HNP.out ho2 hg2 (by simpa using hb2))
          obtain ⟨n4, hn1⟩ : ∃ z, n3 + 1 = z := ⟨_, rfl⟩
          rw [hn1] at ho2
          obtain ⟨A4x, c4x, rfl, _, _⟩ := ownS_slice ho2
          replace HNP := Lib.hid (show (pre3 ++ ([(stM d)] : List Mi)).length = n4 by rw [List.length_append, HNP.out, ← hn1]; rfl)
          have hpl4 : n4 ≤ 4000 + 4 := by omega
          obtain ⟨pre4, hpre⟩ : ∃ z, pre3 ++ ([(stM d)] : List Mi) = z := ⟨_, rfl⟩
          rw [hpre] at HQ2 HNP
          have HPR4 := Lib.hid hpre
          clear hown hnew hbw9 hbw8 ho2 hg2 hb2 HQ hn1 hpre
          have HQ := HQ2
          clear HQ2
          go_wp2
          go_roundg (xs.length - (i + 1))
          case measure => omega
          case rel => exact ⟨i + 1, by omega, by go_num, by
            show RL _ _ _ _ _ _ _
            rw [HE.out, HS2.out, HS3.out]
            have := HQ.out.rl
            rw [← HPR4.out, ← HPR3.out, ← HPR2.out, ← HPR1.out] at this
            simp only [List.append_assoc, List.cons_append, List.nil_append] at this
            exact this⟩
        · have eA : uA op = true := decide_eq_true (by omega)
          have eB : uB op = false := decide_eq_false (by omega)
          have eD : uD op = false := decide_eq_false (by omega)
          have HS3 := Lib.hid (show spO ⟨op, d, a, b, imm⟩ = [ldM 0 a, ⟨op, 0, 0, 0, imm, 0, 0⟩] by unfold spO spA spBb spD opM; dsimp only; rw [eA, eB, eD]; rfl)
          have ha := hra eA
          have hwa1 := (twice22 ha).1; have hwa2 := (twice22 ha).2
          have CA := Lib.hid fun W => rusesA_any op true W eA
          have CB := Lib.hid fun W => rusesB_any op false W eB
          have CD := Lib.hid fun W => rusesD_any op false W eD
          clear eA eB eD hra hrb hrd h2 ho q
          have f0 := HQ.out.x.k0
          go_wp2_with fail
          refine (CA.out _).mono ?_
          rintro e Wu ⟨rfl, rfl⟩
          clear f0
          go_upto_region 10 with fail
          have f9 := HQ.out.x.k2
          go_wp2_with fail
          refine (rmove22 0 (2 * a + 1) _).mono ?_
          rintro e V1 ⟨rfl, hg⟩
          replace HQ := Lib.hid (HQ.out.grew hg)
          clear hg f9
          have hown := (HQ.out.alloc (.cells #[.int .i64 18, .int .i64 0, .int .i64 0, .int .i64 0, .int .i64 0, .int .i64 (0), .int .i64 (2 * a + 1)] 69)).rl.own
          rw [HNP.out] at hown
          have hnew := sees_new V1 #[.int .i64 18, .int .i64 0, .int .i64 0, .int .i64 0, .int .i64 0, .int .i64 (0), .int .i64 (2 * a + 1)] 69
          have hbw9 := HQ.out.rl.blw.size
          have hbw8 : W0.heap.size ≤ V1.heap.size + 1 := by omega
          go_wp2_with (at_builtin; refine wpList_append_any _ rfl (.tmp 44) (.tmp 50) 47 rfl W0.heap.size 69 i0 _ 7 56 Try.underlying47 hi0 hz0 hz1 hz2 rfl (by decide) _ _ _ rfl hown (V1.heap.size + 1) _ 1 1 (Mi.cells (ldM 0 a)) rfl hnew rfl (mi1_22 _) ?ca10 ?cb10 ?cc10 ?_)
          case ca10 => unfold maxLen; omega
          case cb10 => omega
          (try (case cc10 => first | exact hbw8 | (simp; omega)))
          intro v9 X1 ho2 hg2 hb2
          have HQ2 := Lib.hid ((HQ.out.alloc (.cells #[.int .i64 18, .int .i64 0, .int .i64 0, .int .i64 0, .int .i64 0, .int .i64 (0), .int .i64 (2 * a + 1)] 69)).snoc (ldM 0 a) HNP.out ho2 hg2 (by simpa using hb2))
          obtain ⟨n1, hn1⟩ : ∃ z, np + 1 = z := ⟨_, rfl⟩
          rw [hn1] at ho2
          obtain ⟨A1x, c1x, rfl, _, _⟩ := ownS_slice ho2
          replace HNP := Lib.hid (show (pre ++ ([(ldM 0 a)] : List Mi)).length = n1 by rw [List.length_append, HNP.out, ← hn1]; rfl)
          have hpl1 : n1 ≤ 4000 + 1 := by omega
          obtain ⟨pre1, hpre⟩ : ∃ z, pre ++ ([(ldM 0 a)] : List Mi) = z := ⟨_, rfl⟩
          rw [hpre] at HQ2 HNP
          have HPR1 := Lib.hid hpre
          clear hown hnew hbw9 hbw8 ho2 hg2 hb2 HQ hn1 hpre
          have HQ := HQ2
          clear HQ2
          go_upto_region 11 with fail
          have f0 := HQ.out.x.k0
          go_wp2_with fail
          refine (CB.out _).mono ?_
          rintro e Wu ⟨rfl, rfl⟩
          clear f0
          go_upto_region 14 with fail
          have m0 := HQ.out.m.k0; have m1 := HQ.out.m.k1; have m2 := HQ.out.m.k2; have m3 := HQ.out.m.k3; have m4 := HQ.out.m.k4; have m5 := HQ.out.m.k5; have m6 := HQ.out.m.k6
          have hown := (HQ.out.alloc (.cells #[.int .i64 op, .int .i64 0, .int .i64 0, .int .i64 0, .int .i64 imm, .int .i64 0, .int .i64 0] 69)).rl.own
          rw [HNP.out] at hown
          have hnew := sees_new X1 #[.int .i64 op, .int .i64 0, .int .i64 0, .int .i64 0, .int .i64 imm, .int .i64 0, .int .i64 0] 69
          have hbw9 := HQ.out.rl.blw.size
          have hbw8 : W0.heap.size ≤ X1.heap.size + 1 := by omega
          go_wp2_with (at_builtin; refine wpList_append_any _ rfl (.tmp 64) (.tmp 66) 47 rfl W0.heap.size 69 i0 _ 7 56 Try.underlying47 hi0 hz0 hz1 hz2 rfl (by decide) _ _ _ rfl hown (X1.heap.size + 1) _ 1 1 (Mi.cells ⟨op, 0, 0, 0, imm, 0, 0⟩) rfl hnew rfl (mi1_22 _) ?ca11 ?cb11 ?cc11 ?_)
          case ca11 => unfold maxLen; omega
          case cb11 => omega
          (try (case cc11 => first | exact hbw8 | (simp; omega)))
          intro v9 X2 ho2 hg2 hb2
          have HQ2 := Lib.hid ((HQ.out.alloc (.cells #[.int .i64 op, .int .i64 0, .int .i64 0, .int .i64 0, .int .i64 imm, .int .i64 0, .int .i64 0] 69)).snoc ⟨op, 0, 0, 0, imm, 0, 0⟩ HNP.out ho2 hg2 (by simpa using hb2))
          obtain ⟨n2, hn1⟩ : ∃ z, n1 + 1 = z := ⟨_, rfl⟩
          rw [hn1] at ho2
          obtain ⟨A2x, c2x, rfl, _, _⟩ := ownS_slice ho2
          replace HNP := Lib.hid (show (pre1 ++ ([⟨op, 0, 0, 0, imm, 0, 0⟩] : List Mi)).length = n2 by rw [List.length_append, HNP.out, ← hn1]; rfl)
          have hpl2 : n2 ≤ 4000 + 2 := by omega
          obtain ⟨pre2, hpre⟩ : ∃ z, pre1 ++ ([⟨op, 0, 0, 0, imm, 0, 0⟩] : List Mi) = z := ⟨_, rfl⟩
          rw [hpre] at HQ2 HNP
          have HPR2 := Lib.hid hpre
          clear hown hnew hbw9 hbw8 ho2 hg2 hb2 HQ hn1 hpre m0 m1 m2 m3 m4 m5 m6
          have HQ := HQ2
          clear HQ2
          go_upto_region 15 with fail
          have f0 := HQ.out.x.k0
          go_wp2_with fail
          refine (CD.out _).mono ?_
          rintro e Wu ⟨rfl, rfl⟩
          clear f0
          go_wp2
          go_roundg (xs.length - (i + 1))
          case measure => omega
          case rel => exact ⟨i + 1, by omega, by go_num, by
            show RL _ _ _ _ _ _ _
            rw [HE.out, HS2.out, HS3.out]
            have := HQ.out.rl
            rw [← HPR2.out, ← HPR1.out] at this
            simp only [List.append_assoc, List.cons_append, List.nil_append] at this
            exact this⟩
    · have hkz : ¬ (i : Int) < (xs.length : Int) := by omega
      have hk2 : xs.take i = xs := List.take_of_length_le (by omega)
      rw [hk2] at HP hpl
      obtain ⟨ys, hys⟩ : ∃ z, xs.flatMap spI = z := ⟨_, rfl⟩
      rw [hys] at HP hpl
      have HYS := Lib.hid hys
      clear hys hk2 hs0
      obtain ⟨np, hnp⟩ : ∃ z, ys.length = z := ⟨_, rfl⟩
      have HNP := Lib.hid hnp
      rw [hnp] at hpl
      clear hnp
      obtain ⟨A3, c3, e3, _, _⟩ := HP.out.sliceN HNP.out
      subst e3
      have y1 := (HX.out.below HP.out.blw (by omega)).k1; have y2 := (HX.out.below HP.out.blw (by omega)).k2; have y3 := (HX.out.below HP.out.blw (by omega)).k3; have y4 := (HX.out.below HP.out.blw (by omega)).k4
      go_upto_region 18 with fail
      have HT7 := Lib.hid (Row.new wr 43 #[.int .i64 k, .int .i64 ta, .int .i64 tt, .int .i64 el])
      have HP7 := Lib.hid (HP.out.alloc (.cells #[.int .i64 k, .int .i64 ta, .int .i64 tt, .int .i64 el] 43))
      have htb : W0.heap.size ≤ wr.heap.size := HP.out.blw.size
      clear HP y0 y1 y2 y3 y4
      generalize (wr.alloc (.cells #[.int .i64 k, .int .i64 ta, .int .i64 tt, .int .i64 el] 43)) = W7 at *
      generalize wr.heap.size = tb at *
      have t0 := HT7.out.k0
      by_cases hk1 : k = 1
      · have e3 : (k != 1) = false := by rw [hk1]; rfl
        have HE := Lib.hid (show spc = ys by rw [← HSC.out, HYS.out]; unfold spT; rw [if_pos hk1, List.append_nil])
        clear hk1
        go_upto_region 20 with fail
        have t1 := HT7.out.k1; have g1 := HT7.out.frozen 1
        go_upto_region 21 with fail
        have hMt : Mods (Is tb) W7 (W7.setCell ⟨tb, 1, none⟩ (.int .i64 0)) := (Mods.refl (Is tb) W7).put 1 _
        have HPT : Hid (RL Mi.cells 7 69 W0 (.slice A3 np c3) ys (W7.setCell ⟨tb, 1, none⟩ (.int .i64 0))) := ⟨hMt.ownS HP7.out.own (fun q hq e => own_row_neS HP7.out.own HT7.out (by decide) q hq e), HP7.out.blw.trans (hMt.below HP7.out.blw.size fun q hq => by unfold Is at hq; omega)⟩
        have HTT : Hid (Row (W7.setCell ⟨tb, 1, none⟩ (.int .i64 0)) tb 43 #[.int .i64 k, .int .i64 0, .int .i64 tt, .int .i64 el]) := HT7.out.put 1 _
        clear t1 g1 hMt HP7 HT7
        generalize (W7.setCell ⟨tb, 1, none⟩ (.int .i64 0)) = W8 at *
        have t0 := HTT.out.k0; have t1 := HTT.out.k1; have t2 := HTT.out.k2; have t3 := HTT.out.k3
        have HY8 := Lib.hid (HY.out.below HPT.out.blw h2w)
        have z0 := HY8.out.k0; have z1 := HY8.out.k1; have z2 := HY8.out.k2; have z3 := HY8.out.k3; have z4 := HY8.out.k4
        have f0 := HY8.out.frozen 0; have f1 := HY8.out.frozen 1; have f2 := HY8.out.frozen 2; have f3 := HY8.out.frozen 3; have f4 := HY8.out.frozen 4
        go_wp2
        refine bodyPost_ret (v := .agg #[.slice A3 np c3, .int .i64 k, .int .i64 0, .int .i64 tt, .int .i64 el]) ?_ rfl ?_
        · exact results_cell_row rfl _ _ b2 49 #[.slice A3 np c3, .int .i64 k, .int .i64 0, .int .i64 tt, .int .i64 el] (0, 0) _ rfl (Row.put5 HY8.out _ _ _ _ _) Try.underlying49 rfl (by kernel_rfl)
        · have hM := mods5 W8 b2 (.slice A3 np c3) (.int .i64 k) (.int .i64 0) (.int .i64 tt) (.int .i64 el)
          have hown := HPT.out.own
          have hlen := HNP.out
          rw [HE.out]
          have hb9 := (HB0.out.trans (HPT.out.blw.mono HB0.out.size)).trans (hM.below (HB0.out.trans (HPT.out.blw.mono HB0.out.size)).size fun q hq => by unfold Is at hq; omega)
          refine ⟨A3, c3, by rw [hlen], hM.ownS (by rw [hlen] at hown ⊢; exact ownS_base hown HB0.out.size) (fun q hq e => own_row_neS hown HY8.out (by decide) q (by rw [hlen] at hq; exact hq) e), hb9⟩
      · have e3 : (k != 1) = true := by simp [hk1]
        have hta : 0 ≤ ta ∧ ta ≤ 1000000 := by
          rcases HTM.out with h | ⟨_, h⟩
          · exact absurd h hk1
          · exact h
        have HE := Lib.hid (show spc = ys ++ [ldM 0 ta] by rw [← HSC.out, HYS.out]; unfold spT; rw [if_neg hk1])
        have hw1 := (twice22 hta).1; have hw2 := (twice22 hta).2
        clear hk1
        go_upto_region 19 with fail
        have t1 := HT7.out.k1
        go_wp2_with fail
        refine (rmove22 0 (2 * ta + 1) _).mono ?_
        rintro e V ⟨rfl, hg⟩
        replace HT7 := Lib.hid (hg.row HT7.out)
        replace HP7 := Lib.hid (HP7.out.grew hg)
        clear hg t0 t1
        have hown := (HP7.out.alloc (.cells #[.int .i64 18, .int .i64 0, .int .i64 0, .int .i64 0, .int .i64 0, .int .i64 (0), .int .i64 (2 * ta + 1)] 69)).own
        rw [HNP.out] at hown
        have hnew := sees_new V #[.int .i64 18, .int .i64 0, .int .i64 0, .int .i64 0, .int .i64 0, .int .i64 (0), .int .i64 (2 * ta + 1)] 69
        have hbw9 := HP7.out.blw.size
        have hbw8 : W0.heap.size ≤ V.heap.size + 1 := by omega
        go_wp2_with (at_builtin; refine wpList_append_any _ rfl (.tmp 84) (.tmp 90) 47 rfl W0.heap.size 69 i0 _ 7 56 Try.underlying47 hi0 hz0 hz1 hz2 rfl (by decide) _ _ _ rfl hown (V.heap.size + 1) _ 1 1 (Mi.cells (ldM 0 ta)) rfl hnew rfl (mi1_22 _) ?ea ?eb ?ec ?_)
        case ea => unfold maxLen; omega
        case eb => omega
        (try (case ec => first | exact hbw8 | (simp; omega)))
        intro v9 W9 ho2 hg2 hb2
        have HT9 := Lib.hid ((HT7.out.alloc (.cells #[.int .i64 18, .int .i64 0, .int .i64 0, .int .i64 0, .int .i64 0, .int .i64 (0), .int .i64 (2 * ta + 1)] 69)).ty (grown_ty hown hg2) (by decide))
        have HP9 := Lib.hid (HP7.out.push (ldM 0 ta) HNP.out ho2 hg2)
        obtain ⟨n1, hn1⟩ : ∃ z, np + 1 = z := ⟨_, rfl⟩
        rw [hn1] at ho2
        obtain ⟨A9, c9, rfl, _, _⟩ := ownS_slice ho2
        replace HNP := Lib.hid (show (ys ++ ([ldM 0 ta] : List Mi)).length = n1 by rw [List.length_append, HNP.out, ← hn1]; rfl)
        obtain ⟨ys2, hy2⟩ : ∃ z, ys ++ ([ldM 0 ta] : List Mi) = z := ⟨_, rfl⟩
        rw [hy2] at HP9 HNP HE
        clear hown hnew hbw9 hbw8 ho2 hg2 hb2 hn1 hy2 HT7 HP7
        have HT7 := HT9
        have HP7 := HP9
        clear HT9 HP9
        go_upto_region 20 with fail
        have t1 := HT7.out.k1; have g1 := HT7.out.frozen 1
        go_upto_region 21 with fail
        have hMt : Mods (Is tb) W9 (W9.setCell ⟨tb, 1, none⟩ (.int .i64 0)) := (Mods.refl (Is tb) W9).put 1 _
        have HPT : Hid (RL Mi.cells 7 69 W0 (.slice A9 n1 c9) ys2 (W9.setCell ⟨tb, 1, none⟩ (.int .i64 0))) := ⟨hMt.ownS HP7.out.own (fun q hq e => own_row_neS HP7.out.own HT7.out (by decide) q hq e), HP7.out.blw.trans (hMt.below HP7.out.blw.size fun q hq => by unfold Is at hq; omega)⟩
        have HTT : Hid (Row (W9.setCell ⟨tb, 1, none⟩ (.int .i64 0)) tb 43 #[.int .i64 k, .int .i64 0, .int .i64 tt, .int .i64 el]) := HT7.out.put 1 _
        clear t1 g1 hMt HP7 HT7
        generalize (W9.setCell ⟨tb, 1, none⟩ (.int .i64 0)) = W8 at *
        have t0 := HTT.out.k0; have t1 := HTT.out.k1; have t2 := HTT.out.k2; have t3 := HTT.out.k3
        have HY8 := Lib.hid (HY.out.below HPT.out.blw h2w)
        have z0 := HY8.out.k0; have z1 := HY8.out.k1; have z2 := HY8.out.k2; have z3 := HY8.out.k3; have z4 := HY8.out.k4
        have f0 := HY8.out.frozen 0; have f1 := HY8.out.frozen 1; have f2 := HY8.out.frozen 2; have f3 := HY8.out.frozen 3; have f4 := HY8.out.frozen 4
        go_wp2
        refine bodyPost_ret (v := .agg #[.slice A9 n1 c9, .int .i64 k, .int .i64 0, .int .i64 tt, .int .i64 el]) ?_ rfl ?_
        · exact results_cell_row rfl _ _ b2 49 #[.slice A9 n1 c9, .int .i64 k, .int .i64 0, .int .i64 tt, .int .i64 el] (0, 0) _ rfl (Row.put5 HY8.out _ _ _ _ _) Try.underlying49 rfl (by kernel_rfl)
        · have hM := mods5 W8 b2 (.slice A9 n1 c9) (.int .i64 k) (.int .i64 0) (.int .i64 tt) (.int .i64 el)
          have hown := HPT.out.own
          have hlen := HNP.out
          rw [HE.out]
          have hb9 := (HB0.out.trans (HPT.out.blw.mono HB0.out.size)).trans (hM.below (HB0.out.trans (HPT.out.blw.mono HB0.out.size)).size fun q hq => by unfold Is at hq; omega)
          refine ⟨A9, c9, by rw [hlen], hM.ownS (by rw [hlen] at hown ⊢; exact ownS_base hown HB0.out.size) (fun q hq e => own_row_neS hown HY8.out (by decide) q (by rw [hlen] at hq; exact hq) e), hb9⟩

end Go.Proofs.Ytcoehkphdfejjaa
