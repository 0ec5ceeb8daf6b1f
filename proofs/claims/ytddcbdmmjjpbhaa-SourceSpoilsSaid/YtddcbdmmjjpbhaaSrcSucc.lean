/-
  Successors of both; the reference's Numbers.
-/
import Derived.Test.YtddcbdmmjjpbhaaSrcMath
import Derived.Test.YtddcbdmmjjpbhaaFn
import Derived.Test.YtddcbdmmjjpbhaaMem
import Derived.LoopTactic
import Derived.Below
namespace Go.Proofs.Ytddcbdmmjjpbhaa
open Go.RowKit
set_option linter.unusedVariables false

/-- Integers as cells. -/
def ints (l : List Int) : List Value := l.map fun x => Value.int .i64 x
theorem ints_get {l : List Int} {k : Nat} (h : k < l.length) : (ints l)[k]? = some (.int .i64 l[k]) := by simp [ints, h]
theorem ints_ne {l : List Int} {k : Nat} (h : k < l.length) : ints l ≠ [] := by
  intro e
  have := congrArg List.length e
  simp [ints] at this
  subst this
  simp at h
theorem ints_at {w : World} {B : Nat} {A : Option Addr} {l : List Int} (h : Sees w B A (ints l)) {k : Nat} (hk : k < l.length) : ∃ b o, A = some ⟨b, o, none⟩ ∧ b < B ∧ w.cell? ⟨b, o + k, none⟩ = some (.int .i64 l[k]) := by
  obtain ⟨b, o, e, hb, hc⟩ := h (ints_ne hk)
  exact ⟨b, o, e, hb, hc k _ (ints_get hk)⟩

/-- A list of integers, in memory of its own. -/
def IntsP (w : World) (l : List Int) (e : Ending) (w' : World) : Prop := ∃ A c, e = .returned (.slice A l.length c) ∧ l.length ≤ c ∧ c ≤ maxLen ∧ Sees w' w'.heap.size A (ints l) ∧ Below w.heap.size w w'

theorem sees_new1 {W : World} {p : Nat} (hp : W.heap.size = p) (cs : Array Value) (t : TypeId) {xs : List Value} (hx : xs = cs.toList) : Sees (W.alloc (.cells cs t)) (W.alloc (.cells cs t)).heap.size (some ⟨p, 0, none⟩) xs := by
  subst hp
  subst hx
  exact (sees_new W cs t).more (by simp)

set_option maxRecDepth 100000 in
set_option maxHeartbeats 1000000 in
theorem succ_any (t : Tm) (w : World) :
    Calls Try.prog 18 #[.agg #[.int .i64 t.kind, .int .i64 t.a, .int .i64 t.to, .int .i64 t.el]] w (IntsP w (succs t)) := by
  have HB := Lib.hid ((Below.refl w.heap.size w).alloc (Nat.le_refl _) (.cells #[.int .i64 t.kind, .int .i64 t.a, .int .i64 t.to, .int .i64 t.el] 28))
  by_cases h1 : t.kind = 1
  · have e1 : (t.kind == 1) = true := by simp [h1]
    have HS : Hid (succs t = [t.to]) := by rw [Hid, succs, if_pos h1]
    clear h1
    go_enter Try.func18, Try.ntmps18
    go_wp2
    go_ret
    refine ⟨some ⟨w.heap.size + 1, 0, none⟩, 1, by rw [HS.out]; rfl, by rw [HS.out]; exact Nat.le_refl _, by decide, sees_new1 (by simp) _ _ (by rw [HS.out]; rfl), HB.out.alloc HB.out.size _⟩
  · have e1 : (t.kind == 1) = false := by simp [h1]
    by_cases h2 : t.kind = 2
    · have e2 : (t.kind == 2) = true := by simp [h2]
      have HS : Hid (succs t = [t.to, t.el]) := by rw [Hid, succs, if_neg h1, if_pos h2]
      clear h1 h2
      go_enter Try.func18, Try.ntmps18
      go_wp2
      go_ret
      refine ⟨some ⟨w.heap.size + 1, 0, none⟩, 2, by rw [HS.out]; rfl, by rw [HS.out]; exact Nat.le_refl _, by decide, sees_new1 (by simp) _ _ (by rw [HS.out]; rfl), HB.out.alloc HB.out.size _⟩
    · have e2 : (t.kind == 2) = false := by simp [h2]
      have HS : Hid (succs t = []) := by rw [Hid, succs, if_neg h1, if_neg h2]
      clear h1 h2
      go_enter Try.func18, Try.ntmps18
      go_wp2
      go_ret
      refine ⟨none, 0, by rw [HS.out]; rfl, by rw [HS.out]; exact Nat.le_refl _, by decide, ?_, HB.out⟩
      rw [HS.out]
      exact Sees.nil

set_option maxRecDepth 100000 in
set_option maxHeartbeats 1000000 in
theorem rsucc_any (t : Tm) (w : World) :
    Calls Try.prog 19 #[.agg #[.int .i64 t.kind, .int .i64 t.a, .int .i64 t.to, .int .i64 t.el]] w (IntsP w (succs t)) := by
  have HB := Lib.hid ((Below.refl w.heap.size w).alloc (Nat.le_refl _) (.cells #[.int .i64 t.kind, .int .i64 t.a, .int .i64 t.to, .int .i64 t.el] 28))
  by_cases h1 : t.kind = 1
  · have e1 : (t.kind == 1) = true := by simp [h1]
    have HS : Hid (succs t = [t.to]) := by rw [Hid, succs, if_pos h1]
    clear h1
    go_enter Try.func19, Try.ntmps19
    go_wp2
    go_ret
    refine ⟨some ⟨w.heap.size + 1, 0, none⟩, 1, by rw [HS.out]; rfl, by rw [HS.out]; exact Nat.le_refl _, by decide, sees_new1 (by simp) _ _ (by rw [HS.out]; rfl), HB.out.alloc HB.out.size _⟩
  · have e1 : (t.kind == 1) = false := by simp [h1]
    by_cases h2 : t.kind = 2
    · have e2 : (t.kind == 2) = true := by simp [h2]
      have HS : Hid (succs t = [t.to, t.el]) := by rw [Hid, succs, if_neg h1, if_pos h2]
      clear h1 h2
      go_enter Try.func19, Try.ntmps19
      go_wp2
      go_ret
      refine ⟨some ⟨w.heap.size + 1, 0, none⟩, 2, by rw [HS.out]; rfl, by rw [HS.out]; exact Nat.le_refl _, by decide, sees_new1 (by simp) _ _ (by rw [HS.out]; rfl), HB.out.alloc HB.out.size _⟩
    · have e2 : (t.kind == 2) = false := by simp [h2]
      have HS : Hid (succs t = []) := by rw [Hid, succs, if_neg h1, if_neg h2]
      clear h1 h2
      go_enter Try.func19, Try.ntmps19
      go_wp2
      go_ret
      refine ⟨none, 0, by rw [HS.out]; rfl, by rw [HS.out]; exact Nat.le_refl _, by decide, ?_, HB.out⟩
      rw [HS.out]
      exact Sees.nil

def sameI (l r : List Int) : Bool := decide (l = r)
theorem sameI_self (l : List Int) : sameI l l = true := by simp [sameI]
theorem sameI_yes {l r : List Int} (h : l = r) : sameI l r = true := by simp [sameI, h]
theorem sameI_no {l r : List Int} (h : l ≠ r) : sameI l r = false := by simp [sameI, h]
theorem sameI_end {l r : List Int} (hl : l.length = r.length) {k : Nat} (hk : l.length ≤ k) (h : l.take k = r.take k) : l = r := by
  rwa [List.take_of_length_le hk, List.take_of_length_le (by omega)] at h
theorem sameI_step {l r : List Int} {k : Nat} (h : l.take k = r.take k) (hl : k < l.length) (hr : k < r.length) (he : l[k] = r[k]) : l.take (k + 1) = r.take (k + 1) := by
  rw [List.take_succ_eq_append_getElem hl, List.take_succ_eq_append_getElem hr, h, he]

set_option maxRecDepth 100000 in
set_option maxHeartbeats 1000000 in
theorem numbers_any (B : Nat) (A A' : Option Addr) (l r : List Int) (c c' : Nat) (w : World) (hs : Sees w B A (ints l)) (hs' : Sees w B A' (ints r)) (hm : l.length ≤ maxLen) (hm' : r.length ≤ maxLen) :
    Calls Try.prog 17 #[.slice A l.length c, .slice A' r.length c'] w fun e w' => e = .returned (.bool (sameI l r)) ∧ ∃ n, w.drewN n = w' := by
  unfold maxLen at hm hm'
  by_cases hlen : l.length = r.length
  · have e1 : ((l.length : Int) != (r.length : Int)) = false := by simp [hlen]
    have HL := Lib.hid hlen
    clear hlen
    go_enter Try.func17, Try.ntmps17
    go_wp2
    go_loopw [5] (fun i wr => ∃ k n : Nat, k ≤ l.length ∧ i = .int .i64 k ∧ Hid (l.take k = r.take k) ∧ wr = w.drewN n) (fun i _ => l.length - (intOf i).toNat)
    case atStart => exact ⟨0, 0, Nat.zero_le _, rfl, by simp [Hid], rfl⟩
    case round =>
      obtain ⟨k, n, hk, rfl, HT, rfl⟩ := hrel
      by_cases hlt : k < l.length
      · have hltr : k < r.length := by have := HL.out; omega
        obtain ⟨b, o, rfl, _, hcell⟩ := ints_at hs hlt
        obtain ⟨b', o', rfl, _, hcell'⟩ := ints_at hs' hltr
        have HS := fun he => sameI_step HT.out hlt hltr he
        have HN : l[k] ≠ r[k] → l ≠ r := fun h e => by subst e; exact h rfl
        clear hs hs' HT
        generalize l[k] = x at hcell HS HN
        generalize r[k] = y at hcell' HS HN
        by_cases hxy : x = y
        · have HS' := Lib.hid (HS hxy)
          subst hxy
          have e2 : (x != x) = false := by simp
          clear HS HN
          go_wp2
          go_quiet (fail)
          go_wp2
          go_roundw
          case rel => exact ⟨k + 1, _, by omega, by go_num, HS'.out, rfl⟩
          case measure => simp [intOf]; omega
        · have HE := Lib.hid (sameI_no (HN hxy))
          have e2 : (x != y) = true := by simp [hxy]
          clear HS HN hxy
          go_wp2
          go_quiet (fail)
          go_wp2
          go_ret
          exact ⟨by rw [HE.out]; rfl, _, (World.drewN_drewN _ _ _).symm⟩
      · have HE := Lib.hid (sameI_yes (sameI_end HL.out (by omega) HT.out))
        clear HT hs hs'
        go_wp2
        go_ret
        exact ⟨by rw [HE.out]; rfl, _, rfl⟩
  · have HE := Lib.hid (sameI_no (l := l) (r := r) (fun e => hlen (by rw [e])))
    have e1 : ((l.length : Int) != (r.length : Int)) = true := by simp; omega
    clear hlen
    go_enter Try.func17, Try.ntmps17
    go_wp2
    go_ret
    exact ⟨by rw [HE.out]; rfl, 0, rfl⟩

end Go.Proofs.Ytddcbdmmjjpbhaa
