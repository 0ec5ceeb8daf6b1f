/-
  Operations and Others of the reference.
-/
import Derived.Test.YtimmnnadoeagfaaAlMem
namespace Go.Proofs.Ytimmnnadoeagfaa
open Go.RowKit
set_option linter.unusedVariables false

/-- An index as a cell. -/
def natC (x : Nat) : List Value := [.int .i64 (x : Int)]
theorem natC_len (x : Nat) : (natC x).length = 1 := rfl
theorem infoInt : (Try.prog.info? 3).map (fun i => (i.zero, i.size, i.bytes)) = some (some (.int .i64 0), 1, 8) := by kernel_rfl
theorem info_int : ∃ i : TypeInfo, Try.prog.info? 3 = some i ∧ i.zero = some (.int .i64 0) ∧ i.size = 1 ∧ i.bytes = 8 := by
  have h := infoInt
  rcases hi : Try.prog.info? 3 with _ | i
  · rw [hi] at h; simp at h
  · rw [hi] at h
    simp only [Option.map_some, Option.some.injEq, Prod.mk.injEq] at h
    exact ⟨i, rfl, h.1, h.2.1, h.2.2⟩
theorem int_one (a : Int) : ∀ u ∈ (#[Value.int .i64 a] : Array Value).toList, u.oneCell' = true := fun u hu => by
  simp only [List.mem_cons, List.not_mem_nil, or_false] at hu
  rcases hu with rfl
  rfl

theorem idx_true {α : Type} {p : α → Bool} {l : List α} {k : Nat} (hk : k < l.length) (h : p l[k] = true) : idx p (l.take (k + 1)) 0 = idx p (l.take k) 0 := by
  rw [idx_snoc p hk, if_pos h, List.append_nil]
theorem idx_false {α : Type} {p : α → Bool} {l : List α} {k : Nat} (hk : k < l.length) (h : p l[k] = false) : idx p (l.take (k + 1)) 0 = idx p (l.take k) 0 ++ [k] := by
  rw [idx_snoc p hk, h, if_neg (by simp)]

set_option maxRecDepth 100000 in
set_option maxHeartbeats 4000000 in
theorem operations_any {A : Option Addr} {n c : Nat} {l : List In} {w : World} (h : CS w A n c l) (hm : n ≤ 100000) :
    Calls Try.prog 18 #[.slice A n c] w fun e w' => ∃ v, e = .returned v ∧ RL natC 1 3 w v (idx isC l 0) w' := by
  obtain ⟨i0, hi0, hz0, hz1, hz2⟩ := info_int
  have H := Lib.hid h
  clear h
  go_enter Try.func18, Try.ntmps18
  go_wp2
  go_loopg [3, 4] n (fun g v3 v4 wr => ∃ k : Nat, k + g = n ∧ v4 = .int .i64 k ∧ Hid (RL natC 1 3 w v3 (idx isC (l.take k) 0) wr))
  case atStart => exact ⟨0, by omega, by go_num, RL.nil w⟩
  case round =>
    obtain ⟨k, hg, rfl, HP⟩ := hrel
    by_cases hlt : k < n
    · have hkl : k < l.length := by rw [H.out.len]; exact hlt
      have HTT := Lib.hid (idx_true (p := isC) hkl)
      have HTF := Lib.hid (idx_false (p := isC) hkl)
      have hol : (idx isC (l.take k) 0).length ≤ 100000 := by
        have := idx_le isC (l.take k) 0
        rw [List.length_take] at this
        omega
      obtain ⟨b, o, rfl, hb, hx⟩ := H.out.see.at_ hkl
      have c0 := (hx.keep hb fun _ hp => HP.out.blw.cell hp).c0
      have hkz : (k : Int) < (n : Int) := by omega
      generalize idx isC (l.take k) 0 = acc at *
      generalize l[k] = x at *
      obtain ⟨x0, x1, x2, x3, x4⟩ := x
      dsimp only [isC] at c0 HTT HTF
      clear hx
      rcases e2 : (x0 == 2) with _ | _
      · have e3 : (x0 != 2) = true := by simp [bne, e2]
        have HT := Lib.hid (HTF.out e2)
        clear e2 HTT HTF
        go_upto_region 6 with fail
        have hown := (HP.out.alloc (.cells #[.int .i64 (k : Int)] 3)).own
        have hnew := sees_new wr #[.int .i64 (k : Int)] 3
        clear c0
        go_wp2_with (at_builtin; refine wpList_append_any _ rfl (.tmp 17) (.tmp 19) 52 rfl _ 3 i0 (.int .i64 0) 1 8 Try.underlying52 hi0 hz0 hz1 hz2 rfl (by decide) _ _ _ rfl hown (wr.heap.size + 1) _ 1 1 _ rfl hnew rfl (int_one _) ?c1 ?c2 ?c3 ?_)
        case c1 => unfold maxLen; omega
        case c2 => omega
        case c3 => have := HP.out.blw.size; simp; omega
        intro v5 W2 ho2 hg2 hb2
        have HP2 := Lib.hid (HP.out.push k rfl ho2 hg2)
        clear ho2 hg2 hown hnew HP
        go_wp2
        go_roundg (n - (k + 1))
        case measure => omega
        case rel => exact ⟨k + 1, by omega, by go_num, by show RL _ _ _ _ _ _ _; rw [HT.out]; exact HP2.out⟩
      · have e3 : (x0 != 2) = false := by simp [bne, e2]
        have HT := Lib.hid (HTT.out e2)
        clear e2 HTT HTF
        go_wp2
        go_roundg (n - (k + 1))
        case measure => omega
        case rel => exact ⟨k + 1, by omega, by go_num, by show RL _ _ _ _ _ _ _; rw [HT.out]; exact HP.out⟩
    · have hk2 : l.take k = l := List.take_of_length_le (by rw [H.out.len]; omega)
      rw [hk2] at HP
      have hkz : ¬ (k : Int) < (n : Int) := by omega
      clear hk2
      go_wp2
      go_ret
      exact ⟨_, rfl, HP.out⟩

set_option maxRecDepth 100000 in
set_option maxHeartbeats 4000000 in
theorem others_any {A : Option Addr} {n c : Nat} {l : List Mi} {w : World} (h : MS w A n c l) (hm : n ≤ 100000) :
    Calls Try.prog 19 #[.slice A n c] w fun e w' => ∃ v, e = .returned v ∧ RL natC 1 3 w v (idx isM l 0) w' := by
  obtain ⟨i0, hi0, hz0, hz1, hz2⟩ := info_int
  have H := Lib.hid h
  clear h
  go_enter Try.func19, Try.ntmps19
  go_wp2
  go_loopg [3, 4] n (fun g v3 v4 wr => ∃ k : Nat, k + g = n ∧ v4 = .int .i64 k ∧ Hid (RL natC 1 3 w v3 (idx isM (l.take k) 0) wr))
  case atStart => exact ⟨0, by omega, by go_num, RL.nil w⟩
  case round =>
    obtain ⟨k, hg, rfl, HP⟩ := hrel
    by_cases hlt : k < n
    · have hkl : k < l.length := by rw [H.out.len]; exact hlt
      have HTT := Lib.hid (idx_true (p := isM) hkl)
      have HTF := Lib.hid (idx_false (p := isM) hkl)
      have hol : (idx isM (l.take k) 0).length ≤ 100000 := by
        have := idx_le isM (l.take k) 0
        rw [List.length_take] at this
        omega
      obtain ⟨b, o, rfl, hb, hx⟩ := H.out.see.at_ hkl
      have c0 := (hx.keep hb fun _ hp => HP.out.blw.cell hp).c0
      have hkz : (k : Int) < (n : Int) := by omega
      generalize idx isM (l.take k) 0 = acc at *
      generalize l[k] = x at *
      obtain ⟨x0, x1, x2, x3, x4, x5, x6⟩ := x
      dsimp only [isM] at c0 HTT HTF
      clear hx
      rcases e2 : (x0 == 18) with _ | _
      · have e3 : (x0 != 18) = true := by simp [bne, e2]
        have HT := Lib.hid (HTF.out e2)
        clear e2 HTT HTF
        go_upto_region 6 with fail
        have hown := (HP.out.alloc (.cells #[.int .i64 (k : Int)] 3)).own
        have hnew := sees_new wr #[.int .i64 (k : Int)] 3
        clear c0
        go_wp2_with (at_builtin; refine wpList_append_any _ rfl (.tmp 17) (.tmp 19) 52 rfl _ 3 i0 (.int .i64 0) 1 8 Try.underlying52 hi0 hz0 hz1 hz2 rfl (by decide) _ _ _ rfl hown (wr.heap.size + 1) _ 1 1 _ rfl hnew rfl (int_one _) ?c1 ?c2 ?c3 ?_)
        case c1 => unfold maxLen; omega
        case c2 => omega
        case c3 => have := HP.out.blw.size; simp; omega
        intro v5 W2 ho2 hg2 hb2
        have HP2 := Lib.hid (HP.out.push k rfl ho2 hg2)
        clear ho2 hg2 hown hnew HP
        go_wp2
        go_roundg (n - (k + 1))
        case measure => omega
        case rel => exact ⟨k + 1, by omega, by go_num, by show RL _ _ _ _ _ _ _; rw [HT.out]; exact HP2.out⟩
      · have e3 : (x0 != 18) = false := by simp [bne, e2]
        have HT := Lib.hid (HTT.out e2)
        clear e2 HTT HTF
        go_wp2
        go_roundg (n - (k + 1))
        case measure => omega
        case rel => exact ⟨k + 1, by omega, by go_num, by show RL _ _ _ _ _ _ _; rw [HT.out]; exact HP.out⟩
    · have hk2 : l.take k = l := List.take_of_length_le (by rw [H.out.len]; omega)
      rw [hk2] at HP
      have hkz : ¬ (k : Int) < (n : Int) := by omega
      clear hk2
      go_wp2
      go_ret
      exact ⟨_, rfl, HP.out⟩

end Go.Proofs.Ytimmnnadoeagfaa
