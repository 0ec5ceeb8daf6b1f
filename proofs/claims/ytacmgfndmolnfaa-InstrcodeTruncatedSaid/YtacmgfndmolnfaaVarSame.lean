/-
  The comparison of byte slices in the reference: it says whether the lists are equal; it may draw, and turns no memory.
-/
import Derived.Test.YtacmgfndmolnfaaPk1
import Derived.Deep.QuietTactic
import Derived.BigQuiet
namespace Go.Proofs.Ytacmgfndmolnfaa
open Go.RowKit

def sameB (l r : List Nat) : Bool := decide (l = r)
theorem sameB_self (l : List Nat) : sameB l l = true := by simp [sameB]
theorem sameB_yes {l r : List Nat} (h : l = r) : sameB l r = true := by simp [sameB, h]
theorem sameB_no {l r : List Nat} (h : l ≠ r) : sameB l r = false := by simp [sameB, h]
theorem same_end {l r : List Nat} (hl : l.length = r.length) {k : Nat} (hk : l.length ≤ k) (h : l.take k = r.take k) : l = r := by
  rwa [List.take_of_length_le hk, List.take_of_length_le (by omega)] at h
theorem same_step {l r : List Nat} {k : Nat} (h : l.take k = r.take k) (hl : k < l.length) (hr : k < r.length) (he : l[k] = r[k]) : l.take (k + 1) = r.take (k + 1) := by
  rw [List.take_succ_eq_append_getElem hl, List.take_succ_eq_append_getElem hr, h, he]

set_option maxRecDepth 100000 in
set_option maxHeartbeats 1000000 in
theorem same_any (B : Nat) (A A' : Option Addr) (l r : List Nat) (c c' : Nat) (w : World) (hs : Sees w B A (bts l)) (hs' : Sees w B A' (bts r)) (hm : l.length ≤ maxLen) (hm' : r.length ≤ maxLen) :
    Calls Try.prog 25 #[.slice A l.length c, .slice A' r.length c'] w fun e w' => e = .returned (.bool (sameB l r)) ∧ ∃ n, w.drewN n = w' := by
  unfold maxLen at hm hm'
  by_cases hlen : l.length = r.length
  · have e1 : ((l.length : Int) != (r.length : Int)) = false := by simp [hlen]
    have HL := Lib.hid hlen
    clear hlen
    go_enter Try.func25, Try.ntmps25
    go_wp2
    go_loopw [5] (fun i wr => ∃ k n : Nat, k ≤ l.length ∧ i = .int .i64 k ∧ Hid (l.take k = r.take k) ∧ wr = w.drewN n) (fun i _ => l.length - (intOf i).toNat)
    case atStart => exact ⟨0, 0, Nat.zero_le _, rfl, by simp [Hid], rfl⟩
    case round =>
      obtain ⟨k, n, hk, rfl, HT, rfl⟩ := hrel
      by_cases hlt : k < l.length
      · have hltr : k < r.length := by have := HL.out; omega
        obtain ⟨b, o, rfl, _, hc⟩ := hs (bts_ne hlt)
        obtain ⟨b', o', rfl, _, hc'⟩ := hs' (bts_ne hltr)
        have hcell : w.cell? ⟨b, o + k, none⟩ = some (.int .u8 (l[k] : Int)) := hc k _ (by simp [bts, hlt])
        have hcell' : w.cell? ⟨b', o' + k, none⟩ = some (.int .u8 (r[k] : Int)) := hc' k _ (by simp [bts, hltr])
        have HS := fun he => same_step HT.out hlt hltr he
        have HN : l[k] ≠ r[k] → l ≠ r := fun h e => by subst e; exact h rfl
        clear hc hc' hs hs' HT
        generalize l[k] = x at hcell HS HN
        generalize r[k] = y at hcell' HS HN
        by_cases hxy : x = y
        · have HS' := Lib.hid (HS hxy)
          subst hxy
          have e2 : ((x : Int) != (x : Int)) = false := by simp
          clear HS HN
          go_wp2
          go_quiet (fail)
          go_wp2
          go_roundw
          case rel => exact ⟨k + 1, _, by omega, by go_num, HS'.out, rfl⟩
          case measure => simp [intOf]; omega
        · have HE := Lib.hid (sameB_no (HN hxy))
          have e2 : ((x : Int) != (y : Int)) = true := by simp; omega
          clear HS HN hxy
          go_wp2
          go_quiet (fail)
          go_wp2
          go_ret
          exact ⟨by rw [HE.out]; rfl, _, (World.drewN_drewN _ _ _).symm⟩
      · have HE := Lib.hid (sameB_yes (same_end HL.out (by omega) HT.out))
        clear HT hs hs'
        go_wp2
        go_ret
        exact ⟨by rw [HE.out]; rfl, _, rfl⟩
  · have HE := Lib.hid (sameB_no (l := l) (r := r) (fun e => hlen (by rw [e])))
    have e1 : ((l.length : Int) != (r.length : Int)) = true := by simp; omega
    clear hlen
    go_enter Try.func25, Try.ntmps25
    go_wp2
    go_ret
    exact ⟨by rw [HE.out]; rfl, 0, rfl⟩

/-- The same, with the lengths and the outcome as they stand at a call. -/
theorem same_at (l r : List Nat) (b : Bool) (n m : Nat) (B : Nat) (A A' : Option Addr) (c c' : Nat) (w : World) (he : sameB l r = b) (hn : l.length = n) (hm : r.length = m) (hl : n ≤ maxLen) (hr : m ≤ maxLen)
    (hs : Sees w B A (bts l)) (hs' : Sees w B A' (bts r)) :
    Calls Try.prog 25 #[.slice A n c, .slice A' m c'] w fun e w' => e = .returned (.bool b) ∧ ∃ n, w.drewN n = w' := by
  subst he
  subst hn
  subst hm
  exact same_any B A A' l r c c' w hs hs' hl hr

end Go.Proofs.Ytacmgfndmolnfaa
