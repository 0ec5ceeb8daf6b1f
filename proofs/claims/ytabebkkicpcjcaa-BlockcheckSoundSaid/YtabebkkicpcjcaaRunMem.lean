/-
  Runs in memory; the reference's Values, Prefix, Same, Copy; Clone of a slice of integers.
-/
import Derived.Test.YtabebkkicpcjcaaPk1
namespace Go.Proofs.Ytabebkkicpcjcaa
open Go.RowKit
set_option linter.unusedVariables false

/-- The slices of a run, each in a block of its own from lo on; the slots are empty. -/
structure RunV (w : World) (lo : Nat) (RA : Option Addr) (rc : Nat) (TA : Option Addr) (tc : Nat) (r : Rn) : Prop where
  regs : w.ownsRow lo 2 1 (.slice RA r.regs.length rc) r.regs.length (ints r.regs)
  trace : w.ownsRow lo 2 1 (.slice TA r.trace.length tc) r.trace.length (ints r.trace)
  ne : ∀ k, (Value.slice RA r.regs.length rc).ownBlock = some k → (Value.slice TA r.trace.length tc).ownBlock = some k → False
section
variable {w w' : World} {lo : Nat} {RA TA : Option Addr} {rc tc : Nat} {r : Rn}
theorem RunV.mods {S : Nat → Prop} (h : RunV w lo RA rc TA tc r) (hm : Mods S w w') (hS : ∀ k, S k → k < lo ∨ w.heap.size ≤ k) : RunV w' lo RA rc TA tc r :=
  ⟨hm.ownS h.regs fun k hk hs => by have := hS k hs; have := ownS_lt h.regs k hk; omega, hm.ownS h.trace fun k hk hs => by have := hS k hs; have := ownS_lt h.trace k hk; omega, h.ne⟩
theorem RunV.below (h : RunV w lo RA rc TA tc r) (hb : Below w.heap.size w w') : RunV w' lo RA rc TA tc r := h.mods (S := No) (Mods.of_below hb) fun _ h => h.elim
theorem RunV.base (h : RunV w lo RA rc TA tc r) {lo' : Nat} (hl : lo' ≤ lo) : RunV w lo' RA rc TA tc r := ⟨ownS_base h.regs hl, ownS_base h.trace hl, h.ne⟩
theorem RunV.srs (h : RunV w lo RA rc TA tc r) : Sees w w.heap.size RA (ints r.regs) := sees_own h.regs
theorem RunV.str (h : RunV w lo RA rc TA tc r) : Sees w w.heap.size TA (ints r.trace) := sees_own h.trace
theorem own_len {e : TypeId} {s n c : Nat} {A : Option Addr} {xs : List Value} (h : w.ownsRow lo e s (.slice A n c) n xs) : n ≤ c ∧ c ≤ maxLen := by
  obtain ⟨A', c', e, h1, h2⟩ := ownS_slice h
  injection e with _ _ e3
  subst e3
  exact ⟨h1, h2⟩
theorem own_none (w : World) (lo : Nat) (e : TypeId) (s : Nat) : w.ownsRow lo e s (.slice none 0 0) 0 [] := ⟨by simp, .inl ⟨rfl, rfl⟩⟩
theorem RunV.zero (w : World) (lo : Nat) : RunV w lo none 0 none 0 ⟨0, 0, 0, 0, [], [], 0⟩ := ⟨own_none w lo _ _, own_none w lo _ _, fun k hk => by simp [Value.ownBlock] at hk⟩
end
/-- What the functions that return a run leave: the run, in memory of its own. -/
def RunP (w : World) (r : Rn) (e : Ending) (w' : World) : Prop :=
  ∃ RA rc SA sc TA tc, e = .returned (.agg #[.int .i64 r.st, .int .i64 (r.blk : Int), .int .i64 (r.pos : Int), .int .i64 r.val, .slice RA r.regs.length rc, .slice SA 0 sc, .slice TA r.trace.length tc, .int .i64 (r.steps : Int)]) ∧ RunV w' w.heap.size RA rc TA tc r ∧ Below w.heap.size w w'
def RunQ (w : World) (r : Rn) (er : Int) (e : Ending) (w' : World) : Prop :=
  ∃ RA rc SA sc TA tc, e = .returned (.tuple #[.agg #[.int .i64 r.st, .int .i64 (r.blk : Int), .int .i64 (r.pos : Int), .int .i64 r.val, .slice RA r.regs.length rc, .slice SA 0 sc, .slice TA r.trace.length tc, .int .i64 (r.steps : Int)], .int .i64 er]) ∧ RunV w' w.heap.size RA rc TA tc r ∧ Below w.heap.size w w'

set_option maxRecDepth 100000 in
set_option maxHeartbeats 1000000 in
theorem vals_any (B : Nat) (A A' : Option Addr) (l r : List Int) (c c' : Nat) (w : World) (hs : Sees w B A (ints l)) (hs' : Sees w B A' (ints r)) (hm : l.length ≤ maxLen) (hm' : r.length ≤ maxLen) :
    Calls Try.prog 17 #[.slice A l.length c, .slice A' r.length c'] w fun e w' => e = .returned (.bool (sameI l r)) ∧ ∃ n, w.drewN n = w' := by
  unfold maxLen at hm hm'
  by_cases hlen : l.length = r.length
  · have e1 : ((l.length : Int) != (r.length : Int)) = false := by simp [hlen]
    have HL := Lib.hid hlen
    clear hlen
    go_enter Try.func17, Try.ntmps17
    go_wp2
    go_loopw [5] (fun i wr => ∃ k n : Nat, k ≤ l.length ∧ i = .int .i64 k ∧ Hid (l.take k = r.take k) ∧ wr = w.drewN n) (fun i _ => l.length - (intOf i).toNat)
    case atStart => exact ⟨0, 0, Nat.zero_le _, rfl, by simp [Hid], rfl⟩
    case round =>
      obtain ⟨k, n, hk, rfl, HT, rfl⟩ := hrel
      by_cases hlt : k < l.length
      · have hltr : k < r.length := by have := HL.out; omega
        obtain ⟨b, o, rfl, _, hcell⟩ := ints_at hs hlt
        obtain ⟨b', o', rfl, _, hcell'⟩ := ints_at hs' hltr
        have HS := fun he => sameI_step HT.out hlt hltr he
        have HN : l[k] ≠ r[k] → l ≠ r := fun h e => by subst e; exact h rfl
        clear hs hs' HT
        generalize l[k] = x at hcell HS HN
        generalize r[k] = y at hcell' HS HN
        by_cases hxy : x = y
        · have HS' := Lib.hid (HS hxy)
          subst hxy
          have e2 : (x != x) = false := by simp
          clear HS HN
          go_wp2
          go_quiet (fail)
          go_wp2
          go_roundw
          case rel => exact ⟨k + 1, _, by omega, by go_num, HS'.out, rfl⟩
          case measure => simp [intOf]; omega
        · have HE := Lib.hid (sameI_no (HN hxy))
          have e2 : (x != y) = true := by simp [hxy]
          clear HS HN hxy
          go_wp2
          go_quiet (fail)
          go_wp2
          go_ret
          exact ⟨by rw [HE.out]; rfl, _, (World.drewN_drewN _ _ _).symm⟩
      · have HE := Lib.hid (sameI_yes (sameI_end HL.out (by omega) HT.out))
        clear HT hs hs'
        go_wp2
        go_ret
        exact ⟨by rw [HE.out]; rfl, _, rfl⟩
  · have HE := Lib.hid (sameI_no (l := l) (r := r) (fun e => hlen (by rw [e])))
    have e1 : ((l.length : Int) != (r.length : Int)) = true := by simp; omega
    clear hlen
    go_enter Try.func17, Try.ntmps17
    go_wp2
    go_ret
    exact ⟨by rw [HE.out]; rfl, 0, rfl⟩

theorem vals_at {W : World} (B : Nat) {A A' : Option Addr} (l : List Int) (n c c' : Nat) (hl : l.length = n) (hs : Sees W B A (ints l)) (hs' : Sees W B A' (ints l)) (hm : n ≤ maxLen) :
    Calls Try.prog 17 #[.slice A n c, .slice A' n c'] W fun e w' => e = .returned (.bool true) ∧ ∃ n, W.drewN n = w' := by
  subst hl
  have := vals_any B A A' l l c c' W hs hs' hm hm
  rwa [sameI_self] at this

end Go.Proofs.Ytabebkkicpcjcaa
