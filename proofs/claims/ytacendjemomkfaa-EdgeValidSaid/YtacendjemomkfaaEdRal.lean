/-
  The reference of layer 15: All.
-/
import Derived.Test.YtacendjemomkfaaEdRef
namespace Go.Proofs.Ytacendjemomkfaa
open Go.RowKit
set_option linter.unusedVariables false

/-- The locations of a number of which t have been looked at. -/
def partL (r s i t : Nat) : List Int := if t = 0 then [] else if t = 1 then (if i < r then [2 * (i : Int)] else []) else locsL r s i
theorem part_step {r s i t : Nat} (ht : t < 2) : partL r s i (t + 1) = partL r s i t ++ if locS (2 * (i : Int) + (t : Int)) r s then [2 * (i : Int) + (t : Int)] else [] := by
  rcases (by omega : t = 0 ∨ t = 1) with rfl | rfl
  · have e : locS (2 * (i : Int) + ((0 : Nat) : Int)) r s = decide (i < r) := by
      unfold locS
      rw [if_neg (by omega), if_neg (by omega)]
      exact decide_eq_decide.2 (by omega)
    simp only [partL]
    rw [e]
    by_cases h : i < r <;> simp [h]
  · have e : locS (2 * (i : Int) + ((1 : Nat) : Int)) r s = decide (i < s) := by
      unfold locS
      rw [if_neg (by omega), if_pos (by omega)]
      exact decide_eq_decide.2 (by omega)
    simp only [partL, locsL]
    rw [e]
    by_cases h : i < s <;> simp [h]
theorem rowA_step {a : Int} {r s k i t : Nat} (L : List Int) (ht : t < 2) : rowA a k (L ++ partL r s i (t + 1)) = rowA a k (L ++ partL r s i t) ++ if locS (2 * (i : Int) + (t : Int)) r s = true ∧ initP ((k : Int), 2 * (i : Int) + (t : Int)) a = true then [((k : Int), 2 * (i : Int) + (t : Int))] else [] := by
  rw [part_step ht, ← List.append_assoc, rowA_append]
  congr 1
  cases locS (2 * (i : Int) + (t : Int)) r s
  · simp [rowA]
  · simp only [true_and, if_true]
    exact rowA_one a k _

theorem rowA_le {a : Int} {r s k i t : Nat} (hr : r ≤ 20) (hs : s ≤ 20) (hi : i ≤ 20) (ht : t ≤ 2) : (rowA a k (locsN r s i ++ partL r s i t)).length ≤ 50 := by
  refine Nat.le_trans (rowA_len _ _ _) ?_
  rw [List.length_append]
  have h1 := locsN_len r s i
  have h2 : (partL r s i t).length ≤ 2 := by
    unfold partL
    split
    · simp
    · split
      · split <;> simp
      · exact locsL_len r s i
  omega

set_option maxRecDepth 100000 in
set_option maxHeartbeats 16000000 in
theorem rall_any (a : Int) (n r s : Nat) (w : World) (hn : n ≤ 20) (hr : r ≤ 20) (hs : s ≤ 20) :
    Calls Try.prog 16 #[.int .i64 a, .int .i64 (n : Int), .int .i64 (r : Int), .int .i64 (s : Int)] w fun e w' => ∃ v, e = .returned v ∧ PL w v (allA a r s n) w' := by
  have mixed : Try.prog.follows .mixedOrders = true := by kernel_rfl
  obtain ⟨i0, hi0, hz0, hz1, hz2⟩ := info_pr
  go_enter Try.func16, Try.ntmps16
  go_wp2
  go_loopg [9, 10] n (fun g v9 v10 wr => ∃ k : Nat, k + g = n ∧ v10 = .int .i64 k ∧ Hid (PL w v9 (allA a r s k) wr))
  case atStart => exact ⟨0, by omega, by go_num, PL.nil w⟩
  case round =>
    obtain ⟨k, hg, rfl, HP⟩ := hrel
    by_cases hk : k < n
    · have hkz : (k : Int) < (n : Int) := by omega
      have HLA : Hid ((allA a r s k).length ≤ 800) := by
        have h1 := allA_len a r s k
        have h2 : k * (2 * max r s) ≤ 20 * 40 := Nat.mul_le_mul (by omega) (by omega)
        exact Nat.le_trans h1 h2
      have HAS : Hid (allA a r s (k + 1) = allA a r s k ++ rowA a k (locsN r s (max r s))) := allA_succ a r s k
      generalize allA a r s k = oA at *
      obtain ⟨Wo, hwo⟩ : ∃ z, z = wr := ⟨_, rfl⟩
      subst hwo
      obtain ⟨m, hm⟩ : ∃ z, z = max r s := ⟨_, rfl⟩
      rw [← hm] at HAS
      have hm20 : m ≤ 20 := by omega
      have hmr : r ≤ m := by omega
      have hms : s ≤ m := by omega
      have hmm : m ≤ r ∨ m ≤ s := by omega
      have HMM := Lib.hid hmm
      clear hm hmm
      go_wp2
      go_loopg [9, 11] m (fun g v9 v11 wr => ∃ i : Nat, i + g = m ∧ v11 = .int .i64 i ∧ Hid (PL w v9 (oA ++ rowA a k (locsN r s i)) wr))
      case atStart => exact ⟨0, by omega, by go_num, Lib.hid (by simpa [locsN, rowA] using HP.out)⟩
      case round =>
        clear HP
        obtain ⟨i, hgi, rfl, HP⟩ := hrel
        by_cases hi : i < m
        · have hir : (i : Int) < (r : Int) ∨ (i : Int) < (s : Int) := by rcases HMM.out with h | h <;> omega
          have HPN : Hid (∀ t, PL w t (oA ++ rowA a k (locsN r s i ++ partL r s i 2)) = PL w t (oA ++ rowA a k (locsN r s (i + 1)))) := fun t => by
            rw [locsN_succ]; rfl
          have HB : Hid (PL w u9 (oA ++ rowA a k (locsN r s i ++ partL r s i 0)) wr) := Lib.hid (by simpa [partL] using HP.out)
          obtain ⟨Wi, hwi⟩ : ∃ z, z = wr := ⟨_, rfl⟩
          subst hwi
          clear HP
          by_cases hi1 : (i : Int) < (r : Int)
          · have dir : decide ((i : Int) < (r : Int)) = true := by simp [hi1]
            go_wp2
            go_loopg [9, 12] 2 (fun g v9 v12 wr => ∃ t : Nat, t + g = 2 ∧ v12 = .int .i64 t ∧ Hid (PL w v9 (oA ++ rowA a k (locsN r s i ++ partL r s i t)) wr))
            case atStart => exact ⟨0, by omega, by go_num, HB.out⟩
            case round =>
              clear HB
              obtain ⟨t, hgt, rfl, HP⟩ := hrel
              by_cases ht : t < 2
              · have htz : (t : Int) < 2 := by omega
                have HST := Lib.hid (rowA_step (a := a) (r := r) (s := s) (k := k) (i := i) (locsN r s i) ht)
                have hol : (oA ++ rowA a k (locsN r s i ++ partL r s i t)).length ≤ 1000 := by
                  have h1 := rowA_le (a := a) (k := k) (i := i) (t := t) hr hs (by omega) (by omega)
                  have h2 := HLA.out
                  rw [List.length_append]
                  omega
                obtain ⟨l, hl⟩ : ∃ l : Int, l = 2 * (i : Int) + (t : Int) := ⟨_, rfl⟩
                rw [← hl] at HST
                have hl0 : 0 ≤ l := by omega
                have hl1 : l ≤ 9223372036854775807 := by omega
                have hk0 : (0 : Int) ≤ (k : Int) := by omega
                generalize rowA a k (locsN r s i ++ partL r s i t) = oT at *
                go_upto_region 12 with fail
                rw [← hl]
                clear hl
                have hpr := Row.new wr 25 #[.int .i64 (k : Int), .int .i64 l]
                have HPA := Lib.hid (HP.out.alloc (prObj (k : Int) l))
                clear HP
                generalize (wr.alloc (.cells #[.int .i64 (k : Int), .int .i64 l] 25)) = W1 at *
                generalize wr.heap.size = pb at *
                have c0 := hpr.cell 0
                have c1 := hpr.cell 1
                simp only [List.getElem?_toArray, List.getElem?_cons_zero, List.getElem?_cons_succ] at c0 c1
                rcases hbb : locS l r s with _ | _
                · have HNX : Hid (rowA a k (locsN r s i ++ partL r s i (t + 1)) = oT) := by show _ = _; rw [HST.out, hbb]; simp
                  have C1 := Lib.hid fun W => rlocin_at l r s false W ⟨by omega, hl1⟩ hbb
                  clear HST hbb hpr
                  go_wp2_with (go_at_call 23; refine (C1.out _).mono ?_; rintro e w' ⟨rfl, rfl⟩)
                  go_roundg (2 - (t + 1))
                  case measure => omega
                  case rel => exact ⟨t + 1, by omega, by go_num, by show PL _ _ _ _; rw [HNX.out]; exact HPA.out⟩
                · have C1 := Lib.hid fun W => rlocin_at l r s true W ⟨by omega, hl1⟩ hbb
                  have C2 := Lib.hid fun W => rinit_any (k : Int) l a W hk0 hl0 hl1
                  go_wp2_with fail
                  refine (C1.out _).mono ?_
                  rintro e w' ⟨rfl, rfl⟩
                  go_wp2_with fail
                  refine (C2.out _).mono ?_
                  rintro e W2 ⟨rfl, hG⟩
                  have c0' := hG.cell c0
                  have c1' := hG.cell c1
                  have HPB := Lib.hid (HPA.out.grew hG)
                  clear c0 c1 HPA hG C1 C2 hpr
                  rcases hib : initP ((k : Int), l) a with _ | _
                  · have HNX : Hid (rowA a k (locsN r s i ++ partL r s i (t + 1)) = oT) := by show _ = _; rw [HST.out, hbb, hib]; simp
                    clear HST hbb hib
                    go_wp2
                    go_roundg (2 - (t + 1))
                    case measure => omega
                    case rel => exact ⟨t + 1, by omega, by go_num, by show PL _ _ _ _; rw [HNX.out]; exact HPB.out⟩
                  · have HNX : Hid (rowA a k (locsN r s i ++ partL r s i (t + 1)) = oT ++ [((k : Int), l)]) := by show _ = _; rw [HST.out, hbb, hib]; simp
                    clear HST hbb hib
                    obtain ⟨oo, hoo⟩ : ∃ z, z = oA ++ oT := ⟨_, rfl⟩
                    rw [← hoo] at HPB hol
                    have HOO := Lib.hid hoo
                    clear hoo
                    obtain ⟨A9, c9, rfl, hc9, hcm9⟩ := HPB.out.slice
                    go_upto_region 13 with fail
                    have hown := (HPB.out.alloc (prObj (k : Int) l)).own
                    have hnew := new_sees W2 (k : Int) l
                    go_wp2_with (at_builtin; refine wpList_append_any _ rfl (.tmp 49) (.tmp 51) 33 rfl _ 25 i0 (.agg #[.int .i64 0, .int .i64 0]) 2 16 Try.underlying33 hi0 hz0 hz1 hz2 rfl (by decide) _ _ _ rfl hown (W2.heap.size + 1) _ 1 1 _ rfl hnew rfl (prs_one _) ?c1 ?c2 ?c3 ?_)
                    case c1 => have := hol; unfold maxLen; omega
                    case c2 => have := hol; omega
                    case c3 => have := HPB.out.blw.size; simp; omega
                    intro v9 W9 ho2 hg2 hb2
                    have HP9 := Lib.hid (HPB.out.push (k : Int) l (by first | rfl | simp) ho2 hg2)
                    clear ho2 hg2 hb2 hown hnew
                    go_wp2
                    go_roundg (2 - (t + 1))
                    case measure => omega
                    case rel => exact ⟨t + 1, by omega, by go_num, by show PL _ _ _ _; rw [HNX.out, ← List.append_assoc, ← HOO.out]; exact HP9.out⟩
              · have htz : ¬ (t : Int) < 2 := by omega
                obtain rfl : t = 2 := by omega
                have HP2 : Hid (PL w u9 (oA ++ rowA a k (locsN r s (i + 1))) wr) := by have := HP.out; rw [HPN.out] at this; exact this
                go_wp2
                go_roundg (m - (i + 1))
                case measure => omega
                case rel => exact ⟨i + 1, by omega, by go_num, HP2.out⟩
          · have dir : decide ((i : Int) < (r : Int)) = false := by simp [hi1]
            have hi2 : (i : Int) < (s : Int) := by omega
            have dis : decide ((i : Int) < (s : Int)) = true := by simp [hi2]
            go_wp2
            go_loopg [9, 12] 2 (fun g v9 v12 wr => ∃ t : Nat, t + g = 2 ∧ v12 = .int .i64 t ∧ Hid (PL w v9 (oA ++ rowA a k (locsN r s i ++ partL r s i t)) wr))
            case atStart => exact ⟨0, by omega, by go_num, HB.out⟩
            case round =>
              clear HB
              obtain ⟨t, hgt, rfl, HP⟩ := hrel
              by_cases ht : t < 2
              · have htz : (t : Int) < 2 := by omega
                have HST := Lib.hid (rowA_step (a := a) (r := r) (s := s) (k := k) (i := i) (locsN r s i) ht)
                have hol : (oA ++ rowA a k (locsN r s i ++ partL r s i t)).length ≤ 1000 := by
                  have h1 := rowA_le (a := a) (k := k) (i := i) (t := t) hr hs (by omega) (by omega)
                  have h2 := HLA.out
                  rw [List.length_append]
                  omega
                obtain ⟨l, hl⟩ : ∃ l : Int, l = 2 * (i : Int) + (t : Int) := ⟨_, rfl⟩
                rw [← hl] at HST
                have hl0 : 0 ≤ l := by omega
                have hl1 : l ≤ 9223372036854775807 := by omega
                have hk0 : (0 : Int) ≤ (k : Int) := by omega
                generalize rowA a k (locsN r s i ++ partL r s i t) = oT at *
                go_upto_region 12 with fail
                rw [← hl]
                clear hl
                have hpr := Row.new wr 25 #[.int .i64 (k : Int), .int .i64 l]
                have HPA := Lib.hid (HP.out.alloc (prObj (k : Int) l))
                clear HP
                generalize (wr.alloc (.cells #[.int .i64 (k : Int), .int .i64 l] 25)) = W1 at *
                generalize wr.heap.size = pb at *
                have c0 := hpr.cell 0
                have c1 := hpr.cell 1
                simp only [List.getElem?_toArray, List.getElem?_cons_zero, List.getElem?_cons_succ] at c0 c1
                rcases hbb : locS l r s with _ | _
                · have HNX : Hid (rowA a k (locsN r s i ++ partL r s i (t + 1)) = oT) := by show _ = _; rw [HST.out, hbb]; simp
                  have C1 := Lib.hid fun W => rlocin_at l r s false W ⟨by omega, hl1⟩ hbb
                  clear HST hbb hpr
                  go_wp2_with (go_at_call 23; refine (C1.out _).mono ?_; rintro e w' ⟨rfl, rfl⟩)
                  go_roundg (2 - (t + 1))
                  case measure => omega
                  case rel => exact ⟨t + 1, by omega, by go_num, by show PL _ _ _ _; rw [HNX.out]; exact HPA.out⟩
                · have C1 := Lib.hid fun W => rlocin_at l r s true W ⟨by omega, hl1⟩ hbb
                  have C2 := Lib.hid fun W => rinit_any (k : Int) l a W hk0 hl0 hl1
                  go_wp2_with fail
                  refine (C1.out _).mono ?_
                  rintro e w' ⟨rfl, rfl⟩
                  go_wp2_with fail
                  refine (C2.out _).mono ?_
                  rintro e W2 ⟨rfl, hG⟩
                  have c0' := hG.cell c0
                  have c1' := hG.cell c1
                  have HPB := Lib.hid (HPA.out.grew hG)
                  clear c0 c1 HPA hG C1 C2 hpr
                  rcases hib : initP ((k : Int), l) a with _ | _
                  · have HNX : Hid (rowA a k (locsN r s i ++ partL r s i (t + 1)) = oT) := by show _ = _; rw [HST.out, hbb, hib]; simp
                    clear HST hbb hib
                    go_wp2
                    go_roundg (2 - (t + 1))
                    case measure => omega
                    case rel => exact ⟨t + 1, by omega, by go_num, by show PL _ _ _ _; rw [HNX.out]; exact HPB.out⟩
                  · have HNX : Hid (rowA a k (locsN r s i ++ partL r s i (t + 1)) = oT ++ [((k : Int), l)]) := by show _ = _; rw [HST.out, hbb, hib]; simp
                    clear HST hbb hib
                    obtain ⟨oo, hoo⟩ : ∃ z, z = oA ++ oT := ⟨_, rfl⟩
                    rw [← hoo] at HPB hol
                    have HOO := Lib.hid hoo
                    clear hoo
                    obtain ⟨A9, c9, rfl, hc9, hcm9⟩ := HPB.out.slice
                    go_upto_region 13 with fail
                    have hown := (HPB.out.alloc (prObj (k : Int) l)).own
                    have hnew := new_sees W2 (k : Int) l
                    go_wp2_with (at_builtin; refine wpList_append_any _ rfl (.tmp 49) (.tmp 51) 33 rfl _ 25 i0 (.agg #[.int .i64 0, .int .i64 0]) 2 16 Try.underlying33 hi0 hz0 hz1 hz2 rfl (by decide) _ _ _ rfl hown (W2.heap.size + 1) _ 1 1 _ rfl hnew rfl (prs_one _) ?c1 ?c2 ?c3 ?_)
                    case c1 => have := hol; unfold maxLen; omega
                    case c2 => have := hol; omega
                    case c3 => have := HPB.out.blw.size; simp; omega
                    intro v9 W9 ho2 hg2 hb2
                    have HP9 := Lib.hid (HPB.out.push (k : Int) l (by first | rfl | simp) ho2 hg2)
                    clear ho2 hg2 hb2 hown hnew
                    go_wp2
                    go_roundg (2 - (t + 1))
                    case measure => omega
                    case rel => exact ⟨t + 1, by omega, by go_num, by show PL _ _ _ _; rw [HNX.out, ← List.append_assoc, ← HOO.out]; exact HP9.out⟩
              · have htz : ¬ (t : Int) < 2 := by omega
                obtain rfl : t = 2 := by omega
                have HP2 : Hid (PL w u9 (oA ++ rowA a k (locsN r s (i + 1))) wr) := by have := HP.out; rw [HPN.out] at this; exact this
                go_wp2
                go_roundg (m - (i + 1))
                case measure => omega
                case rel => exact ⟨i + 1, by omega, by go_num, HP2.out⟩
        · have hiz : ¬ (i : Int) < (r : Int) := by omega
          have hiz2 : ¬ (i : Int) < (s : Int) := by omega
          obtain rfl : i = m := by omega
          have HP2 : Hid (PL w u9 (allA a r s (k + 1)) wr) := by show PL _ _ _ _; rw [HAS.out]; exact HP.out
          go_wp2
          go_roundg (n - (k + 1))
          case measure => omega
          case rel => exact ⟨k + 1, by omega, by go_num, HP2.out⟩
    · have hkz : ¬ (k : Int) < (n : Int) := by omega
      obtain rfl : k = n := by omega
      go_wp2
      go_ret
      exact ⟨_, rfl, HP.out⟩

end Go.Proofs.Ytacendjemomkfaa
