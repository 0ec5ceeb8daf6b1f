/-
  The reference's Add and Make.
-/
import Derived.Test.YtacendjemomkfaaPsSame
import Derived.Test.YtacendjemomkfaaPsOwn
namespace Go.Proofs.Ytacendjemomkfaa
open Go.RowKit
set_option linter.unusedVariables false

theorem stA_t (p : Pr) (o : List Pr) (x : Pr) (he : x = p) : stA p (true, o) x = (true, o) := by simp [stA, he]
theorem stA_tn (p : Pr) (o : List Pr) (x : Pr) (he : ¬ x = p) : stA p (true, o) x = (true, o ++ [x]) := by simp [stA, he]
theorem stA_f (p : Pr) (o : List Pr) (x : Pr) (hl : ltP x p = true) (he : x = p) : stA p (false, o) x = (false, o) := by subst he; simp [stA, hl]
theorem stA_fn (p : Pr) (o : List Pr) (x : Pr) (hl : ltP x p = true) (he : ¬ x = p) : stA p (false, o) x = (false, o ++ [x]) := by simp [stA, hl, he]
theorem stA_p (p : Pr) (o : List Pr) (x : Pr) (hl : ltP x p = false) (he : x = p) : stA p (false, o) x = (true, o ++ [p]) := by subst he; simp [stA, hl]
theorem stA_pn (p : Pr) (o : List Pr) (x : Pr) (hl : ltP x p = false) (he : ¬ x = p) : stA p (false, o) x = (true, o ++ [p] ++ [x]) := by simp [stA, hl, he]

theorem stA_len (p : Pr) (s : Bool × List Pr) (x : Pr) : (stA p s x).2.length ≤ s.2.length + 2 := by
  unfold stA
  dsimp only
  split <;> split <;> simp <;> omega

theorem foA_len (p : Pr) : ∀ (k : Nat) (l : List Pr), l.length = k → (foA p l).2.length ≤ 2 * k
  | 0, l, hk => by
    obtain rfl := List.eq_nil_of_length_eq_zero hk
    simp [foA]
  | k + 1, l, hk => by
    rcases List.eq_nil_or_concat l with rfl | ⟨r, x, rfl⟩
    · simp at hk
    rw [List.concat_eq_append] at *
    rw [foA_snoc]
    have := stA_len p (foA p r) x
    have := foA_len p k r (by simpa using hk)
    omega

theorem foA_take (p : Pr) {l : List Pr} {k : Nat} (hk : k < l.length) : foA p (l.take (k + 1)) = stA p (foA p (l.take k)) l[k] := by
  rw [List.take_succ_eq_append_getElem hk, foA_snoc]

set_option maxRecDepth 100000 in
set_option maxHeartbeats 4000000 in
theorem radd_any (B : Nat) (A : Option Addr) (l : List Pr) (c : Nat) (p : Pr) (w : World) (hs : Sees w B A (prs l)) (hB : B ≤ w.heap.size) (hm : l.length ≤ 1000000) :
    Calls Try.prog 26 #[.slice A l.length c, .agg #[.int .i64 p.1, .int .i64 p.2]] w fun e w' => ∃ v, e = .returned v ∧ PL w v (addP l p) w' := by
  have mixed : Try.prog.follows .mixedOrders = true := by kernel_rfl
  have hG := guard_pr
  obtain ⟨i0, hi0, hz0, hz1, hz2⟩ := info_pr
  obtain ⟨p1, p2⟩ := p
  dsimp only
  have hA := (Row.new w 25 #[.int .i64 p1, .int .i64 p2])
  have HBW := Lib.hid ((Below.refl w.heap.size w).alloc (Nat.le_refl _) (prObj p1 p2))
  have hs1 := hs.alloc hB (prObj p1 p2)
  clear hs
  go_enter Try.func26, Try.ntmps26
  go_upto_region 1 with fail
  have hB1 : B ≤ (w.alloc (prObj p1 p2)).heap.size := by simp; omega
  have HSZ := Lib.hid (show w.heap.size ≤ (w.alloc (prObj p1 p2)).heap.size by simp)
  generalize (w.alloc (.cells #[.int .i64 p1, .int .i64 p2] 25)) = W0 at *
  have a0 := hA.cell 0; have a1 := hA.cell 1
  simp only [List.getElem?_toArray, List.getElem?_cons_zero, List.getElem?_cons_succ] at a0 a1
  have HA : Hid (W0.cell? ⟨w.heap.size, 0, none⟩ = some (.int .i64 p1) ∧ W0.cell? ⟨w.heap.size, 1, none⟩ = some (.int .i64 p2) ∧ w.heap.size < W0.heap.size) := ⟨a0, a1, hA.lt⟩
  clear hA a0 a1
  go_wp2
  go_loopg [5, 6, 7] l.length (fun g v5 v6 v7 wr => ∃ k : Nat, k + g = l.length ∧ v7 = .int .i64 k ∧ v6 = .bool (foA (p1, p2) (l.take k)).1 ∧ Hid (PL W0 v5 (foA (p1, p2) (l.take k)).2 wr))
  case atStart => exact ⟨0, by omega, by go_num, rfl, PL.nil W0⟩
  case round =>
    obtain ⟨k, hg, rfl, rfl, HP⟩ := hrel
    have hol := foA_len (p1, p2) k (l.take k) (by simp; omega)
    by_cases hlt : k < l.length
    · have FT := Lib.hid (foA_take (p1, p2) hlt)
      generalize foA (p1, p2) (l.take k) = s at *
      obtain ⟨d, o⟩ := s
      dsimp only at *
      obtain ⟨b, o', rfl, hb, hc0, hc1⟩ := sees_pair hs1 hlt
      obtain ⟨x, hx⟩ : ∃ x, x = l[k] := ⟨_, rfl⟩
      rw [← hx] at hc0 hc1
      have XL := Lib.hid hx
      have FT2 : Hid (foA (p1, p2) (l.take (k + 1)) = stA (p1, p2) (d, o) x) := by rw [hx]; exact FT.out
      clear hx FT
      obtain ⟨x1, x2⟩ := x
      dsimp only at hc0 hc1
      have CF : Hid (∀ W, Below W0.heap.size W0 W → W.cell? ⟨b, o' + k * 2, none⟩ = some (.int .i64 x1) ∧ W.cell? ⟨b, o' + k * 2 + 1, none⟩ = some (.int .i64 x2) ∧ W.cell? ⟨w.heap.size, 0, none⟩ = some (.int .i64 p1) ∧ W.cell? ⟨w.heap.size, 1, none⟩ = some (.int .i64 p2)) := fun W h =>
        ⟨(h.cell (p := ⟨b, _, none⟩) (by show b < _; omega)).trans hc0, (h.cell (p := ⟨b, _, none⟩) (by show b < _; omega)).trans hc1, (h.cell (p := ⟨w.heap.size, _, none⟩) HA.out.2.2).trans HA.out.1, (h.cell (p := ⟨w.heap.size, _, none⟩) HA.out.2.2).trans HA.out.2.1⟩
      have hkz : (k : Int) < (l.length : Int) := by omega
      clear hs1 hc0 hc1 HA
      cases d
      · have C1 : Hid (∀ n os, Calls Try.prog 21 #[.agg #[.int .i64 x1, .int .i64 x2], .agg #[.int .i64 p1, .int .i64 p2]] (Go.Sort.grow (wr.drewN n) os) fun e w' => e = .returned (.bool (ltP (x1, x2) (p1, p2))) ∧ ∃ q os', w' = Go.Sort.grow ((Go.Sort.grow (wr.drewN n) os).drewN q) os') := fun n os => rless_any (x1, x2) (p1, p2) _
        obtain ⟨d0, d1, d2, d3⟩ := CF.out _ HP.out.blw
        have g0 := fun n os => Go.cell_grown (World.block_lt_of_cell? _ _ d0) d0 n os
        have g1 := fun n os => Go.cell_grown (World.block_lt_of_cell? _ _ d1) d1 n os
        have g2 := fun n os => Go.cell_grown (World.block_lt_of_cell? _ _ d2) d2 n os
        have g3 := fun n os => Go.cell_grown (World.block_lt_of_cell? _ _ d3) d3 n os
        clear d0 d1 d2 d3
        obtain ⟨bb, hbb⟩ : ∃ z, z = ltP (x1, x2) (p1, p2) := ⟨_, rfl⟩
        rw [← hbb] at C1
        have HBB := Lib.hid hbb
        clear hbb
        cases bb
        · have FT3 : Hid (((x1, x2) = (p1, p2) → foA (p1, p2) (l.take (k + 1)) = (true, o ++ [(p1, p2)])) ∧ (¬ (x1, x2) = (p1, p2) → foA (p1, p2) (l.take (k + 1)) = (true, o ++ [(p1, p2)] ++ [(x1, x2)]))) := ⟨fun h => FT2.out.trans (stA_p _ _ _ HBB.out.symm h), fun h => FT2.out.trans (stA_pn _ _ _ HBB.out.symm h)⟩
          go_wp2_with fail
          go_quiet_grown (first | (go_at_call 21; refine Calls.grown_of (C1.out _ _)))
          go_upto_region 7 with fail
          have HP1 := Lib.hid (HP.out.grew ⟨nq, osq, rfl⟩)
          clear g0 g1 g2 g3 C1
          generalize Go.Sort.grow (wr.drewN nq) osq = W1 at *
          obtain ⟨c0, c1, c2, c3⟩ := CF.out _ HP1.out.blw
          have hown := (HP1.out.alloc (prObj p1 p2)).own
          have hnew := new_sees W1 p1 p2
          go_wp2_with (at_builtin; refine wpList_append_any _ rfl (.tmp 25) (.tmp 27) 33 rfl _ 25 i0 (.agg #[.int .i64 0, .int .i64 0]) 2 16 Try.underlying33 hi0 hz0 hz1 hz2 rfl (by decide) _ _ _ rfl hown (W1.heap.size + 1) _ 1 1 _ rfl hnew rfl (prs_one _) ?c1 ?c2 ?c3 ?_)
          case c1 => have := hol; unfold maxLen; omega
          case c2 => have := hol; omega
          case c3 => have := HP1.out.blw.size; simp; omega
          intro v2 W2 ho2 hg2 hb2
          have HP2 := Lib.hid (HP1.out.push p1 p2 (by first | rfl | simp) ho2 hg2)
          clear ho2 hg2 hb2 hown hnew
          go_upto_region 9 with fail
          clear c0 c1 c2 c3
          have hq : ∀ W, (binOp .neq 25 (.agg #[.int .i64 x1, .int .i64 x2]) (.agg #[.int .i64 p1, .int .i64 p2])).run Try.prog W = .ok (.bool (!decide (((x1, x2) : Pr) = (p1, p2)))) W := fun W => neq_pr (x1, x2) (p1, p2) W
          obtain ⟨c0, c1, c2, c3⟩ := CF.out _ HP2.out.blw
          by_cases hxe : ((x1, x2) : Pr) = (p1, p2)
          · rw [show (!decide (((x1, x2) : Pr) = (p1, p2))) = false by simp [hxe]] at hq
            have HE := Lib.hid (FT3.out.1 hxe)
            clear hxe
            go_wp2_with fail
            go_quiet (fail)
            go_wp2
            go_roundg (l.length - (k + 1))
            case measure => omega
            case rel =>
              refine ⟨k + 1, by omega, by go_num, by rw [HE.out], ?_⟩
              rw [HE.out]
              exact HP2.out.grew ((Grew.refl _).drewN _)
          · rw [show (!decide (((x1, x2) : Pr) = (p1, p2))) = true by simp [hxe]] at hq
            have HE := Lib.hid (FT3.out.2 hxe)
            clear hxe
            go_wp2_with fail
            go_quiet (fail)
            go_upto_region 10 with fail
            have HP8 := Lib.hid (HP2.out.grew ((Grew.refl W2).drewN nq))
            clear c0 c1 c2 c3
            generalize (W2).drewN nq = W8 at *
            obtain ⟨c0, c1, c2, c3⟩ := CF.out _ HP8.out.blw
            have e0 := (World.cell?_alloc_lt W8 (prObj x1 x2) ⟨b, o' + k * 2, none⟩ (World.block_lt_of_cell? _ _ c0)).trans c0
            have hown := (HP8.out.alloc (prObj x1 x2)).own
            have hnew := new_sees W8 x1 x2
            go_wp2_with (at_builtin; refine wpList_append_any _ rfl (.tmp 35) (.tmp 40) 33 rfl _ 25 i0 (.agg #[.int .i64 0, .int .i64 0]) 2 16 Try.underlying33 hi0 hz0 hz1 hz2 rfl (by decide) _ _ _ rfl hown (W8.heap.size + 1) _ 1 1 _ rfl hnew rfl (prs_one _) ?c1 ?c2 ?c3 ?_)
            case c1 => have := (show (o ++ [(p1, p2)]).length ≤ 2 * k + 1 by simp; omega); unfold maxLen; omega
            case c2 => have := (show (o ++ [(p1, p2)]).length ≤ 2 * k + 1 by simp; omega); omega
            case c3 => have := HP8.out.blw.size; simp; omega
            intro v9 W9 ho2 hg2 hb2
            have HP9 := Lib.hid (HP8.out.push x1 x2 (by first | rfl | simp) ho2 hg2)
            clear ho2 hg2 hb2 hown hnew
            go_wp2
            go_roundg (l.length - (k + 1))
            case measure => omega
            case rel =>
              refine ⟨k + 1, by omega, by go_num, by rw [HE.out], ?_⟩
              rw [HE.out]
              exact HP9.out
        · have FT3 : Hid (((x1, x2) = (p1, p2) → foA (p1, p2) (l.take (k + 1)) = (false, o)) ∧ (¬ (x1, x2) = (p1, p2) → foA (p1, p2) (l.take (k + 1)) = (false, o ++ [(x1, x2)]))) := ⟨fun h => FT2.out.trans (stA_f _ _ _ HBB.out.symm h), fun h => FT2.out.trans (stA_fn _ _ _ HBB.out.symm h)⟩
          go_wp2_with fail
          go_quiet_grown (first | (go_at_call 21; refine Calls.grown_of (C1.out _ _)))
          go_upto_region 9 with fail
          have HP1 := Lib.hid (HP.out.grew ⟨nq, osq, rfl⟩)
          clear g0 g1 g2 g3 C1
          generalize Go.Sort.grow (wr.drewN nq) osq = W1 at *
          have hq : ∀ W, (binOp .neq 25 (.agg #[.int .i64 x1, .int .i64 x2]) (.agg #[.int .i64 p1, .int .i64 p2])).run Try.prog W = .ok (.bool (!decide (((x1, x2) : Pr) = (p1, p2)))) W := fun W => neq_pr (x1, x2) (p1, p2) W
          obtain ⟨c0, c1, c2, c3⟩ := CF.out _ HP1.out.blw
          by_cases hxe : ((x1, x2) : Pr) = (p1, p2)
          · rw [show (!decide (((x1, x2) : Pr) = (p1, p2))) = false by simp [hxe]] at hq
            have HE := Lib.hid (FT3.out.1 hxe)
            clear hxe
            go_wp2_with fail
            go_quiet (fail)
            go_wp2
            go_roundg (l.length - (k + 1))
            case measure => omega
            case rel =>
              refine ⟨k + 1, by omega, by go_num, by rw [HE.out], ?_⟩
              rw [HE.out]
              exact HP1.out.grew ((Grew.refl _).drewN _)
          · rw [show (!decide (((x1, x2) : Pr) = (p1, p2))) = true by simp [hxe]] at hq
            have HE := Lib.hid (FT3.out.2 hxe)
            clear hxe
            go_wp2_with fail
            go_quiet (fail)
            go_upto_region 10 with fail
            have HP8 := Lib.hid (HP1.out.grew ((Grew.refl W1).drewN nq))
            clear c0 c1 c2 c3
            generalize (W1).drewN nq = W8 at *
            obtain ⟨c0, c1, c2, c3⟩ := CF.out _ HP8.out.blw
            have e0 := (World.cell?_alloc_lt W8 (prObj x1 x2) ⟨b, o' + k * 2, none⟩ (World.block_lt_of_cell? _ _ c0)).trans c0
            have hown := (HP8.out.alloc (prObj x1 x2)).own
            have hnew := new_sees W8 x1 x2
            go_wp2_with (at_builtin; refine wpList_append_any _ rfl (.tmp 35) (.tmp 40) 33 rfl _ 25 i0 (.agg #[.int .i64 0, .int .i64 0]) 2 16 Try.underlying33 hi0 hz0 hz1 hz2 rfl (by decide) _ _ _ rfl hown (W8.heap.size + 1) _ 1 1 _ rfl hnew rfl (prs_one _) ?c1 ?c2 ?c3 ?_)
            case c1 => have := hol; unfold maxLen; omega
            case c2 => have := hol; omega
            case c3 => have := HP8.out.blw.size; simp; omega
            intro v9 W9 ho2 hg2 hb2
            have HP9 := Lib.hid (HP8.out.push x1 x2 (by first | rfl | simp) ho2 hg2)
            clear ho2 hg2 hb2 hown hnew
            go_wp2
            go_roundg (l.length - (k + 1))
            case measure => omega
            case rel =>
              refine ⟨k + 1, by omega, by go_num, by rw [HE.out], ?_⟩
              rw [HE.out]
              exact HP9.out
      · have FT3 : Hid (((x1, x2) = (p1, p2) → foA (p1, p2) (l.take (k + 1)) = (true, o)) ∧ (¬ (x1, x2) = (p1, p2) → foA (p1, p2) (l.take (k + 1)) = (true, o ++ [(x1, x2)]))) := ⟨fun h => FT2.out.trans (stA_t _ _ _ h), fun h => FT2.out.trans (stA_tn _ _ _ h)⟩
        go_wp2_with fail
        go_quiet (fail)
        go_upto_region 9 with fail
        have HP1 := Lib.hid (HP.out.grew ((Grew.refl wr).drewN nq))
        generalize wr.drewN nq = W1 at *
        have hq : ∀ W, (binOp .neq 25 (.agg #[.int .i64 x1, .int .i64 x2]) (.agg #[.int .i64 p1, .int .i64 p2])).run Try.prog W = .ok (.bool (!decide (((x1, x2) : Pr) = (p1, p2)))) W := fun W => neq_pr (x1, x2) (p1, p2) W
        obtain ⟨c0, c1, c2, c3⟩ := CF.out _ HP1.out.blw
        by_cases hxe : ((x1, x2) : Pr) = (p1, p2)
        · rw [show (!decide (((x1, x2) : Pr) = (p1, p2))) = false by simp [hxe]] at hq
          have HE := Lib.hid (FT3.out.1 hxe)
          clear hxe
          go_wp2_with fail
          go_quiet (fail)
          go_wp2
          go_roundg (l.length - (k + 1))
          case measure => omega
          case rel =>
            refine ⟨k + 1, by omega, by go_num, by rw [HE.out], ?_⟩
            rw [HE.out]
            exact HP1.out.grew ((Grew.refl _).drewN _)
        · rw [show (!decide (((x1, x2) : Pr) = (p1, p2))) = true by simp [hxe]] at hq
          have HE := Lib.hid (FT3.out.2 hxe)
          clear hxe
          go_wp2_with fail
          go_quiet (fail)
          go_upto_region 10 with fail
          have HP8 := Lib.hid (HP1.out.grew ((Grew.refl W1).drewN nq))
          clear c0 c1 c2 c3
          generalize (W1).drewN nq = W8 at *
          obtain ⟨c0, c1, c2, c3⟩ := CF.out _ HP8.out.blw
          have e0 := (World.cell?_alloc_lt W8 (prObj x1 x2) ⟨b, o' + k * 2, none⟩ (World.block_lt_of_cell? _ _ c0)).trans c0
          have hown := (HP8.out.alloc (prObj x1 x2)).own
          have hnew := new_sees W8 x1 x2
          go_wp2_with (at_builtin; refine wpList_append_any _ rfl (.tmp 35) (.tmp 40) 33 rfl _ 25 i0 (.agg #[.int .i64 0, .int .i64 0]) 2 16 Try.underlying33 hi0 hz0 hz1 hz2 rfl (by decide) _ _ _ rfl hown (W8.heap.size + 1) _ 1 1 _ rfl hnew rfl (prs_one _) ?c1 ?c2 ?c3 ?_)
          case c1 => have := hol; unfold maxLen; omega
          case c2 => have := hol; omega
          case c3 => have := HP8.out.blw.size; simp; omega
          intro v9 W9 ho2 hg2 hb2
          have HP9 := Lib.hid (HP8.out.push x1 x2 (by first | rfl | simp) ho2 hg2)
          clear ho2 hg2 hb2 hown hnew
          go_wp2
          go_roundg (l.length - (k + 1))
          case measure => omega
          case rel =>
            refine ⟨k + 1, by omega, by go_num, by rw [HE.out], ?_⟩
            rw [HE.out]
            exact HP9.out
    · have hk2 : l.take k = l := List.take_of_length_le (by omega)
      rw [hk2] at HP hol ⊢
      clear hk2
      have AD : Hid (addP l (p1, p2) = if (foA (p1, p2) l).1 then (foA (p1, p2) l).2 else (foA (p1, p2) l).2 ++ [(p1, p2)]) := rfl
      have hkz : ¬ (k : Int) < (l.length : Int) := by omega
      generalize foA (p1, p2) l = s at *
      obtain ⟨d, o⟩ := s
      dsimp only at HP hol ⊢
      clear hs1
      cases d
      · have AD2 := Lib.hid (show addP l (p1, p2) = o ++ [(p1, p2)] from AD.out.trans (if_neg (by simp)))
        clear AD
        go_upto_region 12 with fail
        have c2 := (HP.out.blw.cell (p := ⟨w.heap.size, 0, none⟩) HA.out.2.2).trans HA.out.1
        have c3 := (HP.out.blw.cell (p := ⟨w.heap.size, 1, none⟩) HA.out.2.2).trans HA.out.2.1
        have hown := (HP.out.alloc (prObj p1 p2)).own
        have hnew := new_sees wr p1 p2
        go_wp2_with (at_builtin; refine wpList_append_any _ rfl (.tmp 44) (.tmp 46) 33 rfl _ 25 i0 (.agg #[.int .i64 0, .int .i64 0]) 2 16 Try.underlying33 hi0 hz0 hz1 hz2 rfl (by decide) _ _ _ rfl hown (wr.heap.size + 1) _ 1 1 _ rfl hnew rfl (prs_one _) ?c1 ?c2 ?c3 ?_)
        case c1 => have := hol; unfold maxLen; omega
        case c2 => have := hol; omega
        case c3 => have := HP.out.blw.size; simp; omega
        intro v2 W2 ho2 hg2 hb2
        have HP2 := Lib.hid (HP.out.push p1 p2 (by first | rfl | simp) ho2 hg2)
        clear ho2 hg2 hb2 hown hnew
        go_wp2
        go_ret
        rw [AD2.out]
        exact ⟨_, rfl, HP2.out.base HBW.out⟩
      · have AD2 := Lib.hid (show addP l (p1, p2) = o from AD.out.trans (if_pos rfl))
        clear AD
        go_wp2
        go_ret
        rw [AD2.out]
        exact ⟨_, rfl, HP.out.base HBW.out⟩

set_option maxRecDepth 100000 in
set_option maxHeartbeats 4000000 in
theorem rmake_any (B : Nat) (A : Option Addr) (l : List Pr) (c : Nat) (w : World) (hs : Sees w B A (prs l)) (hB : B ≤ w.heap.size) (hm : l.length ≤ 1000000) :
    Calls Try.prog 17 #[.slice A l.length c] w fun e w' => ∃ v, e = .returned v ∧ PL w v (mkP l) w' := by
  have C1 := Lib.hid fun B A (r : List Pr) c p W h1 h2 h3 => radd_any B A r c p W h1 h2 h3
  go_enter Try.func17, Try.ntmps17
  go_wp2
  go_loopg [3, 4] l.length (fun g v3 v4 wr => ∃ k : Nat, k + g = l.length ∧ v4 = .int .i64 k ∧ Hid (PL w v3 (mkP (l.take k)) wr))
  case atStart => exact ⟨0, by omega, by go_num, PL.nil w⟩
  case round =>
    obtain ⟨k, hg, rfl, HP⟩ := hrel
    by_cases hlt : k < l.length
    · have FT : Hid (mkP (l.take (k + 1)) = addP (mkP (l.take k)) l[k]) := by show _ = _; rw [List.take_succ_eq_append_getElem hlt, mkP_snoc]
      have hol : (mkP (l.take k)).length ≤ 1000000 := Nat.le_trans (mkP_len _) (by simp; omega)
      generalize mkP (l.take k) = o at *
      obtain ⟨A3, c3, rfl, hoc, hcm⟩ := HP.out.slice
      obtain ⟨b, o', rfl, hb, hc0, hc1⟩ := sees_pair hs hlt
      have f0 := (HP.out.blw.cell (p := ⟨b, _, none⟩) (by show b < _; omega)).trans hc0
      have f1 := (HP.out.blw.cell (p := ⟨b, _, none⟩) (by show b < _; omega)).trans hc1
      have C2 : Hid (Calls Try.prog 26 #[.slice A3 o.length c3, .agg #[.int .i64 l[k].1, .int .i64 l[k].2]] wr fun e w' => ∃ v, e = .returned v ∧ PL wr v (addP o l[k]) w') := C1.out _ _ o c3 l[k] wr HP.out.sees (Nat.le_refl _) hol
      have hkz : (k : Int) < (l.length : Int) := by omega
      clear hs hc0 hc1
      generalize l[k].1 = x1 at *
      generalize l[k].2 = x2 at *
      go_wp2_with fail
      refine C2.out.mono ?_
      rintro e W1 ⟨v, rfl, hP1⟩
      have HP1 : Hid (PL w v (addP o l[k]) W1) := hP1.base HP.out.blw
      clear hP1
      go_wp2
      go_roundg (l.length - (k + 1))
      case measure => omega
      case rel => exact ⟨k + 1, by omega, by go_num, by show PL _ _ _ _; rw [FT.out]; exact HP1.out⟩
    · have hk2 : l.take k = l := List.take_of_length_le (by omega)
      rw [hk2] at HP
      have hkz : ¬ (k : Int) < (l.length : Int) := by omega
      clear hk2 hs
      go_wp2
      go_ret
      exact ⟨_, rfl, HP.out⟩

end Go.Proofs.Ytacendjemomkfaa
