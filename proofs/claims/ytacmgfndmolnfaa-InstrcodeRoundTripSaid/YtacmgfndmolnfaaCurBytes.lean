/-
  The cursor's method Bytes: the reading function copies, and stores the copy into a variable that the method has made.
-/
import Derived.Test.YtacmgfndmolnfaaCurOps
namespace Go.Proofs.Ytacmgfndmolnfaa
open Go.RowKit
set_option linter.unusedVariables false

def MemP (r : Nat × Nat × Nat) (S : Nat → Prop) (w : World) (Q : World → Prop) (e : Ending) (w' : World) : Prop := e = Trip r ∧ Mods S w w' ∧ Q w'
def Both (p : Nat) (S : Nat → Prop) : Nat → Prop := fun k => k = p ∨ S k

set_option maxRecDepth 100000 in
set_option maxHeartbeats 1000000 in
theorem read_mem (K : FuncId) (caps : Array Value) (hK : ∀ args W, (callFunc K args).run Try.prog W = .ok (.enter K args) W) {w : World} {lo p : Nat} {l : List Nat} {i : Nat} {er : Int} {A : Option Addr} {c : Nat} (h : Cur w lo p l i er A c) (r : Nat × Nat × Nat)
    (hr : r.2.1 ≤ (l.drop i).length) (S : Nat → Prop) (hS : ∀ k, S k → k < lo ∨ p < k) (Q : World → Prop) (hQ : ∀ w' j u, Q w' → Q (w'.setCell ⟨p, j, none⟩ u))
    (H : Hid (∀ A' c' W, (∃ n, W = w.drewN n) → Sees w p A' (bts (l.drop i)) → l.length - i ≤ c' → c' ≤ maxLen → Calls Try.prog K (#[.slice A' (l.length - i) c'] ++ caps) W (MemP r S w Q))) (he : er = 0) :
    Calls Try.prog 65 #[.pointer (some ⟨p, 0, none⟩), .func (.func K) #[] caps] w fun e w' => e = .returned (.int .u64 (stepV er r)) ∧ Mods (Both p S) w w' ∧ Cur w' lo p l (stepI i er r) (stepE er r) A c ∧ Q w' := by
  have h0 : w.cell? ⟨p, 0, none⟩ = some (.slice A l.length c) := h.row.cell 0
  have h1 : w.cell? ⟨p, 1, none⟩ = some (.int .i64 i) := h.row.cell 1
  have hle := h.le
  have hmx := h.max
  have hlc := h.lec
  have hcm := h.cmax
  have hcm2 : c - i ≤ maxLen := by omega
  unfold maxLen at hmx
  subst he
  have hdl : (l.drop i).length = l.length - i := by simp
  have hn : r.2.1 ≤ l.length - i := by omega
  have hs := h.sees.drop (k := i) (by rw [bts_length]; exact hlc)
  rw [show (bts l).drop i = bts (l.drop i) from by simp [bts]] at hs
  clear hdl hr
  obtain ⟨v, n, e⟩ := r
  simp only at H hn
  by_cases hci : c = i
  case' pos => rw [if_pos hci] at hs
  case' neg => rw [if_neg hci] at hs
  all_goals
    have Hs := Lib.hid hs
    have HQ := Lib.hid hQ
    have HS := Lib.hid hS
    clear hs hQ hS
    go_enter Try.func65, Try.ntmps65
    go_wp2_with fail
    refine (err_any h).mono ?_
    rintro e W ⟨rfl, rfl⟩
    have HC := Lib.hid h
    clear h
    go_wp2_with fail
    go_region_with ((with_reducible refine (H.out _ _ _ (by first | exact ⟨1, rfl⟩ | exact ⟨_, rfl⟩) Hs.out (by omega) (by first | exact hcm2 | exact Nat.zero_le _)).mono ?_); rintro e W ⟨rfl, hm, hq⟩; have Hm := Lib.hid hm; have Hq := Lib.hid hq; clear hm hq; unfold Trip)
    all_goals
      have hc1 := (HC.out.mods Hm.out HS.out)
      have h1' : W.cell? ⟨p, 1, none⟩ = some (.int .i64 i) := hc1.row.cell 1
      have h2' : W.cell? ⟨p, 2, none⟩ = some (.int .i64 0) := hc1.row.cell 2
      have f1 := hc1.row.frozen 1
      have f2 := hc1.row.frozen 2
      have HC1 := Lib.hid hc1
      have HM := Lib.hid (Hm.out.mono (S' := Both p S) fun k hk => .inr hk)
      clear hc1 HS Hm HC Hs
      by_cases h3 : e = 0
      · subst h3
        go_wp2
        go_ret
        exact ⟨rfl, HM.out.setCell (p := ⟨p, 1, none⟩) (.inl (.inl rfl)) _, by have := HC1.out.at_ (i + n) (by omega); rwa [Int.natCast_add] at this, HQ.out _ _ _ Hq.out⟩
      · have e3 : ((e : Int) != 0) = true := by simp; omega
        have HV := Lib.hid (show stepV 0 (v, n, e) = 0 from if_neg fun h => h3 h.2)
        have HI := Lib.hid (show stepI i 0 (v, n, e) = i from if_neg fun h => h3 h.2)
        go_wp2
        go_ret
        exact ⟨by rw [HV.out]; rfl, HM.out.setCell (p := ⟨p, 2, none⟩) (.inl (.inl rfl)) _, by rw [HI.out]; exact HC1.out.err e, HQ.out _ _ _ Hq.out⟩

def bytesS (n : Int) (l : List Nat) : Nat × Nat × Nat := if n < 0 then (0, 0, 32) else if (l.length : Int) < n then (0, 0, 1) else (0, n.toNat, 0)
theorem bytesS_len (n : Int) (l : List Nat) : (bytesS n l).2.1 ≤ l.length := by
  unfold bytesS
  split
  · simp
  · split
    · simp
    · simp; omega
/-- The bytes that Bytes returns. -/
def bytesL (er n : Int) (l : List Nat) : List Nat := if er = 0 ∧ 0 ≤ n ∧ n ≤ (l.length : Int) then l.take n.toNat else []

/-- The variable at block q holds a new slice with the bytes l, and nothing else has turned. -/
def Got (B q : Nat) (l : List Nat) (w' : World) : Prop := ∃ A' c', Row w' q 22 #[.slice A' l.length c'] ∧ w'.ownsRow B 5 1 (.slice A' l.length c') l.length (bts l) ∧ (∀ x, A' = some x → B ≤ x.block ∧ x.block ≠ q) ∧ l.length ≤ c' ∧ c' ≤ maxLen

end Go.Proofs.Ytacmgfndmolnfaa
