/-
  Size; the reference's Few and Same for lists of byte slices.
-/
import Derived.Test.YtgipdebkikldaaaSecMem
import Derived.Test.YtgipdebkikldaaaVarSame
import Derived.Deep.RegionWith
import Derived.Deep.RegionHeld3
import Derived.Deep.DeepMust
namespace Go.Proofs.Ytgipdebkikldaaa
open Go.RowKit
set_option linter.unusedVariables false

set_option maxRecDepth 100000 in
set_option maxHeartbeats 1000000 in
theorem size_any (B : Nat) (A : Option Addr) (xs : List (List Nat)) (c : Nat) (w : World) (hs : SeesL w B A xs) (hm : sizeS xs ≤ 1000000) (hn : xs.length ≤ 1000000) :
    Calls Try.prog 15 #[.slice A xs.length c] w fun e w' => e = .returned (.int .i64 (sizeS xs : Nat)) ∧ w = w' := by
  go_enter Try.func15, Try.ntmps15
  go_wp2
  go_loop [3, 8] (fun s i => ∃ k : Nat, k ≤ xs.length ∧ i = .int .i64 k ∧ s = .int .i64 (sizeS (xs.take k) : Nat)) (fun _ i => xs.length - (intOf i).toNat)
  case atStart => exact ⟨0, Nat.zero_le _, rfl, by rw [List.take_zero]; rfl⟩
  case round =>
    obtain ⟨k, hk, rfl, rfl⟩ := hrel
    by_cases hlt : k < xs.length
    · obtain ⟨b, o, Ai, ci, rfl, _, hcell, hci, hcm, _⟩ := hs.at_ hlt
      have h1 := sizeS_step xs k hlt
      have h2 := sizeS_take xs (k + 1)
      have HT := Lib.hid h1
      clear hs
      generalize sizeS (xs.take k) = s0 at h1 h2 HT
      generalize xs[k].length = n at *
      have h3 : 1 + lenS n + n + s0 ≤ 1000000 := by omega
      clear h1 h2
      go_wp2_with fail
      refine (len_any (n : Int) _ (by omega) (by omega)).mono ?_
      rintro e W ⟨rfl, rfl⟩
      rw [Int.toNat_natCast]
      generalize lenS n = m at *
      go_wp2
      go_round
      case rel => exact ⟨k + 1, by omega, by go_num, by rw [HT.out]; go_num⟩
      case measure => simp [intOf]; omega
    · obtain rfl : k = xs.length := by omega
      rw [List.take_length]
      go_wp2
      go_ret
      exact ⟨rfl, rfl⟩

def sameL (l r : List (List Nat)) : Bool := decide (l = r)
theorem sameL_self (l : List (List Nat)) : sameL l l = true := by simp [sameL]
theorem sameL_yes {l r : List (List Nat)} (h : l = r) : sameL l r = true := by simp [sameL, h]
theorem sameL_no {l r : List (List Nat)} (h : l ≠ r) : sameL l r = false := by simp [sameL, h]
theorem take_same {α : Type} {l r : List α} {k : Nat} (h : l.take k = r.take k) (hl : k < l.length) (hr : k < r.length) (he : l[k] = r[k]) : l.take (k + 1) = r.take (k + 1) := by
  rw [List.take_succ_eq_append_getElem hl, List.take_succ_eq_append_getElem hr, h, he]
theorem take_end {α : Type} {l r : List α} (hl : l.length = r.length) {k : Nat} (hk : l.length ≤ k) (h : l.take k = r.take k) : l = r := by
  rwa [List.take_of_length_le hk, List.take_of_length_le (by omega)] at h

/-- What Few says: few contents, and few bytes. -/
def Few (xs : List (List Nat)) : Prop := xs.length ≤ 100 ∧ totalS xs ≤ 2000

def FewP (xs : List (List Nat)) (w : World) (e : Ending) (w' : World) : Prop := ∃ b, e = .returned (.bool b) ∧ (b = true → Few xs) ∧ ∃ n, w.drewN n = w'

set_option maxRecDepth 100000 in
set_option maxHeartbeats 1000000 in
theorem few_any (B : Nat) (A : Option Addr) (xs : List (List Nat)) (c : Nat) (w : World) (hs : SeesL w B A xs) (hn : xs.length ≤ maxLen) :
    Calls Try.prog 8 #[.slice A xs.length c] w (FewP xs w) := by
  unfold maxLen at hn
  go_enter Try.func8, Try.ntmps8
  go_wp2
  go_loop [3, 4] (fun s i => ∃ k : Nat, k ≤ xs.length ∧ k ≤ 101 ∧ totalS (xs.take k) ≤ 1000 * k ∧ i = .int .i64 k ∧ s = .int .i64 (totalS (xs.take k) : Nat)) (fun _ i => xs.length - (intOf i).toNat)
  case atStart => exact ⟨0, Nat.zero_le _, by omega, by rw [List.take_zero]; exact Nat.le_refl _, rfl, by rw [List.take_zero]; rfl⟩
  case round =>
    obtain ⟨k, hk, hk1, ht, rfl, rfl⟩ := hrel
    by_cases hlt : k < xs.length
    · by_cases h100 : k ≤ 100
      · obtain ⟨b, o, Ai, ci, rfl, _, hcell, hci, hcm, _⟩ := hs.at_ hlt
        have HT := Lib.hid (totalS_step xs k hlt)
        clear hs
        generalize totalS (xs.take k) = s0 at ht HT
        generalize xs[k].length = n at *
        by_cases hbig : n ≤ 1000
        · go_wp2
          go_round
          case rel => exact ⟨k + 1, by omega, by omega, by rw [HT.out]; omega, by go_num, by rw [HT.out]; go_num⟩
          case measure => simp [intOf]; omega
        · go_wp2
          go_ret
          exact ⟨false, rfl, (fun h => by cases h), 0, rfl⟩
      · generalize totalS (xs.take k) = s0 at ht
        have hb2 : (100 : Int) < xs.length := by omega
        go_wp2
        go_ret
        exact ⟨false, rfl, (fun h => by cases h), 0, rfl⟩
    · obtain rfl : k = xs.length := by omega
      rw [List.take_length] at *
      by_cases h100 : xs.length ≤ 100
      · have HF := Lib.hid (show (decide ((totalS xs : Int) ≤ 2000) = true) → Few xs from fun h => ⟨h100, by have := of_decide_eq_true h; omega⟩)
        generalize totalS xs = s0 at *
        go_wp2
        go_ret
        exact ⟨_, rfl, HF.out, 0, rfl⟩
      · generalize totalS xs = s0 at *
        go_wp2
        go_ret
        exact ⟨false, rfl, (fun h => by cases h), 0, rfl⟩

set_option maxRecDepth 100000 in
set_option maxHeartbeats 1000000 in
theorem sameL_any (B : Nat) (A A' : Option Addr) (l r : List (List Nat)) (c c' : Nat) (w : World) (hs : SeesL w B A l) (hs' : SeesL w B A' r) (hm : l.length ≤ 1000) (hm' : r.length ≤ 1000) :
    Calls Try.prog 11 #[.slice A l.length c, .slice A' r.length c'] w fun e w' => e = .returned (.bool (sameL l r)) ∧ ∃ n, w.drewN n = w' := by
  by_cases hlen : l.length = r.length
  · have e1 : ((l.length : Int) != (r.length : Int)) = false := by simp [hlen]
    have HL := Lib.hid hlen
    clear hlen
    go_enter Try.func11, Try.ntmps11
    go_wp2
    go_loopw [5] (fun i wr => ∃ k : Nat, k ≤ l.length ∧ i = .int .i64 k ∧ Hid (l.take k = r.take k) ∧ Hid (∃ n, w.drewN n = wr)) (fun i _ => l.length - (intOf i).toNat)
    case atStart => exact ⟨0, Nat.zero_le _, rfl, by simp [Hid], 0, rfl⟩
    case round =>
      obtain ⟨k, hk, rfl, HT, HW⟩ := hrel
      by_cases hlt : k < l.length
      · have hltr : k < r.length := by have := HL.out; omega
        have hs0 : SeesL wr B A l := by obtain ⟨n, rfl⟩ := HW.out; exact hs.drewN n
        have hs0' : SeesL wr B A' r := by obtain ⟨n, rfl⟩ := HW.out; exact hs'.drewN n
        obtain ⟨b, o, Ai, ci, rfl, _, hcell, hci, hcm, hsi⟩ := hs0.at_ hlt
        obtain ⟨b', o', Ai', ci', rfl, _, hcell', hci', hcm', hsi'⟩ := hs0'.at_ hltr
        have HS := Lib.hid fun he => take_same HT.out hlt hltr he
        have HN := Lib.hid (show l[k] ≠ r[k] → l ≠ r from fun h e => by subst e; exact h rfl)
        have HC : Hid (∀ w0, (∃ m, w0 = wr.drewN m) → Calls Try.prog 14 #[.slice Ai l[k].length ci, .slice Ai' r[k].length ci'] w0 fun e w' => e = .returned (.bool (sameB l[k] r[k])) ∧ ∃ n, w0.drewN n = w') :=
          fun w0 ⟨m, hm⟩ => by subst hm; exact same_any B Ai Ai' l[k] r[k] ci ci' (wr.drewN m) (hsi.drewN m) (hsi'.drewN m) (by omega) (by omega)
        have HX := Lib.hid (And.intro hcell hcell')
        clear hs hs' hs0 hs0' HT hsi hsi' hcell hcell'
        generalize l[k] = x at *
        generalize r[k] = y at *
        obtain ⟨bb, hbb⟩ : ∃ z, z = sameB x y := ⟨_, rfl⟩
        rw [← hbb] at HC
        have HE := Lib.hid hbb
        clear hbb
        go_wp2_with fail
        go_region_held3 (fun w' => w'.cell? ⟨b, o + k, none⟩ = some (.slice Ai x.length ci) ∧ w'.cell? ⟨b', o' + k, none⟩ = some (.slice Ai' y.length ci')) (first | exact HX.out | exact hXa) (first
          | (go_at_call 14; go_must (((with_reducible refine (HC.out _ (by first | exact ⟨1, rfl⟩ | exact ⟨0, rfl⟩ | exact ⟨_, rfl⟩)).mono ?_); rintro e Wa ⟨rfl, na, hWa⟩; have HWa : Hid (∃ m, wr.drewN m = Wa) := (by first | exact ⟨_, hWa⟩ | exact ⟨_, (World.drewN_drewN _ _ _).symm.trans hWa⟩); have hXa : Wa.cell? ⟨b, o + k, none⟩ = some (.slice Ai x.length ci) ∧ Wa.cell? ⟨b', o' + k, none⟩ = some (.slice Ai' y.length ci') := (by obtain ⟨m, rfl⟩ := HWa.out; exact HX.out); clear hWa)))
          )
        clear HC HX hXa
        have HW2 : Hid (∃ n, w.drewN n = Wa) := by
          obtain ⟨n, rfl⟩ := HW.out
          obtain ⟨m, rfl⟩ := HWa.out
          exact ⟨_, (World.drewN_drewN _ _ _).symm⟩
        cases bb
        · have hxy : x ≠ y := fun e => by have := HE.out; rw [sameB_yes e] at this; cases this
          have HE' := Lib.hid (sameL_no (HN.out hxy))
          clear HS HN HE hxy
          go_wp2
          go_ret
          exact ⟨by rw [HE'.out]; rfl, HW2.out⟩
        · have hxy : x = y := by
            have := HE.out
            unfold sameB at this
            exact of_decide_eq_true this.symm
          have HS' := Lib.hid (HS.out hxy)
          clear HS HN HE hxy
          go_wp2
          go_roundw
          case rel => exact ⟨k + 1, by omega, by go_num, HS'.out, HW2.out⟩
          case measure => simp [intOf]; omega
      · have HE := Lib.hid (sameL_yes (take_end HL.out (by omega) HT.out))
        clear HT hs hs'
        go_wp2
        go_ret
        exact ⟨by rw [HE.out]; rfl, HW.out⟩
  · have HE := Lib.hid (sameL_no (l := l) (r := r) (fun e => hlen (by rw [e])))
    have e1 : ((l.length : Int) != (r.length : Int)) = true := by simp; omega
    clear hlen
    go_enter Try.func11, Try.ntmps11
    go_wp2
    go_ret
    exact ⟨by rw [HE.out]; rfl, 0, rfl⟩

end Go.Proofs.Ytgipdebkikldaaa
