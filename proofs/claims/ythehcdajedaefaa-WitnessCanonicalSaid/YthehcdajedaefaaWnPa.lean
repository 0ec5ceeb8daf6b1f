/-
  The program of layer 19: what its reading carries, whatever the code: lists of pairs of one's own beside a cursor.
-/
import Derived.Test.YthehcdajedaefaaWnGt
import Derived.Test.YthehcdajedaefaaPNest
import Derived.Test.YthehcdajedaefaaPk5
import Derived.Test.YthehcdajedaefaaPk9
namespace Go.Proofs.Ythehcdajedaefaa
open Go.RowKit
set_option linter.unusedVariables false
set_option linter.unusedSimpArgs false

theorem failT_E (x : Int) (t : Ip) : failT x t = failE x t := by
  unfold failT failE
  by_cases h0 : t.err = 0
  · rw [if_pos h0, if_neg fun h => h h0]
  · rw [if_neg h0, if_pos h0]

/-- A number is what Uint says, tested against its bound. -/
theorem num_raw {bd why : Int} {t : Ip} : numE bd why t = if bd ≤ (rawV t : Int) then (0, failE why (rawT t)) else ((rawV t : Int), rawT t) := by
  by_cases h0 : t.err = 0
  · by_cases h1 : (getS t.rest).2.2 = 0
    · have hT : rawT t = ⟨t.rest.drop (getS t.rest).2.1, 0⟩ := by unfold rawT; rw [if_neg (by omega), if_neg (by omega)]
      have hV : rawV t = (getS t.rest).1 := by unfold rawV; rw [hT, if_pos rfl]
      rw [hT, hV, numE, if_neg (by omega), if_neg (by omega)]
      split <;> rfl
    · have hT : rawT t = ⟨[], ((getS t.rest).2.2 : Int)⟩ := by unfold rawT; rw [if_neg (by omega), if_pos h1]
      have h9 : (((getS t.rest).2.2 : Nat) : Int) ≠ 0 := by omega
      have hV : rawV t = 0 := by unfold rawV; rw [hT, if_neg (by simp only; omega)]
      rw [hT, hV, numE, if_neg (by omega), if_pos h1]
      have hF : failE why ⟨[], ((getS t.rest).2.2 : Int)⟩ = ⟨[], ((getS t.rest).2.2 : Int)⟩ := if_pos h9
      rw [hF]
      split <;> rfl
  · have hT : rawT t = t := by unfold rawT; rw [if_pos h0]
    have hV : rawV t = 0 := by unfold rawV; rw [hT, if_neg h0]
    have hF : failE why t = t := if_pos h0
    rw [hT, hV, numE, if_pos h0, hF]
    split <;> rfl

/-- A pair whose register is out of range. -/
theorem pair_a {vr r n : Int} {f : Bool} {q : Pr} {s : Ip} (h : vr - q.1 ≤ (rawV s : Int)) : (pairE vr r n f q s).2 = failE 9 (rawT s) ∧ (pairE vr r n f q s).2.err ≠ 0 := by
  have h1 : pdvE vr q s = (0, failE 9 (rawT s)) := by unfold pdvE; rw [num_raw, if_pos h]
  have h2 : (pdvE vr q s).2.err ≠ 0 := by rw [h1]; exact failE_err (by decide)
  have h3 : pdlE vr q s = (0, failE 9 (rawT s)) := by unfold pdlE; rw [numE_err h2, h1]
  have h4 : (pairE vr r n f q s).2 = failE 9 (rawT s) := by
    unfold pairE
    rw [h3]
    exact if_neg fun hh => absurd hh.1 (failE_err (by decide))
  exact ⟨h4, by rw [h4]; exact failE_err (by decide)⟩

/-- A pair whose second number is too large. -/
theorem pair_b {vr r n : Int} {f : Bool} {q : Pr} {s : Ip} (h : ¬ vr - q.1 ≤ (rawV s : Int)) (h2 : 4611686018427387904 ≤ (rawV (rawT s) : Int)) : (pairE vr r n f q s).2 = failE 10 (rawT (rawT s)) ∧ (pairE vr r n f q s).2.err ≠ 0 := by
  have h1 : pdvE vr q s = ((rawV s : Int), rawT s) := by unfold pdvE; rw [num_raw, if_neg h]
  have h3 : pdlE vr q s = (0, failE 10 (rawT (rawT s))) := by unfold pdlE; rw [h1, num_raw, if_pos h2]
  have h4 : (pairE vr r n f q s).2 = failE 10 (rawT (rawT s)) := by
    unfold pairE
    rw [h3]
    exact if_neg fun hh => absurd hh.1 (failE_err (by decide))
  exact ⟨h4, by rw [h4]; exact failE_err (by decide)⟩

/-- Any other pair. -/
theorem pair_c {vr r n : Int} {f : Bool} {q : Pr} {s : Ip} (h : ¬ vr - q.1 ≤ (rawV s : Int)) (h2 : ¬ 4611686018427387904 ≤ (rawV (rawT s) : Int)) {lo : Int} (hl : lo = if f = false ∧ (rawV s : Int) = 0 then q.2 + 1 + (rawV (rawT s) : Int) else (rawV (rawT s) : Int)) :
    pairE vr r n f q s = ((q.1 + (rawV s : Int), lo), if locS lo r n = false then failE 10 (rawT (rawT s)) else rawT (rawT s)) := by
  have h1 : pdvE vr q s = ((rawV s : Int), rawT s) := by unfold pdvE; rw [num_raw, if_neg h]
  have h3 : pdlE vr q s = ((rawV (rawT s) : Int), rawT (rawT s)) := by unfold pdlE; rw [h1, num_raw, if_neg h2]
  have h4 : plE vr f q s = lo := by unfold plE; rw [h1, h3]; exact hl.symm
  unfold pairE
  rw [h4, h3, h1]
  dsimp only
  by_cases h9 : locS lo r n = false
  · rw [if_pos h9]
    by_cases h8 : (rawT (rawT s)).err = 0
    · rw [if_pos ⟨h8, h9⟩]
    · rw [if_neg fun hh => h8 hh.1, failE_keep h8]
  · rw [if_neg h9, if_neg fun hh => h9 hh.2]

/-- Invariants of one's own beside a cursor. -/
structure WP (w : World) (lo p : Nat) (l : List Nat) (A : Option Addr) (c : Nat) (t : Ip) (v : Value) (xs : List (List Pr)) (W : World) : Prop where
  md : Mods (Is p) w W
  ce : CE lo p l A c t W
  nst : ∃ vs, NestV pshp W w.heap.size v vs xs
  pw : p < w.heap.size

/-- Within an invariant: its pairs are a list at base z; what lies between Wq's end and z (a closure's variables) may turn. -/
structure WQ (w Wq : World) (z lo p : Nat) (l : List Nat) (A : Option Addr) (c : Nat) (t : Ip) (v : Value) (xs : List (List Pr)) (u : Value) (ps : List Pr) (W : World) : Prop where
  q : ∃ t0, WP w lo p l A c t0 v xs Wq
  md : Mods (Is p) Wq W
  ce : CE lo p l A c t W
  own : W.ownsRow z 52 2 u ps.length (prs ps)
  hz : Wq.heap.size ≤ z

section
variable {w W W' Wq : World} {z lo p : Nat} {l : List Nat} {A : Option Addr} {c : Nat} {t t' : Ip} {v v' u u' : Value} {xs : List (List Pr)} {ps : List Pr}

theorem WP.start (h : CE lo p l A c t w) : WP w lo p l A c t (.slice none 0 0) [] w := ⟨Mods.refl _ _, h, ⟨[], NestV.nil _ _⟩, h.lt⟩

theorem WP.next (h : WP w lo p l A c t v xs W) (hm : Mods (Is p) W W') (hc : CE lo p l A c t' W') : WP w lo p l A c t' v xs W' :=
  ⟨h.md.trans hm, hc, let ⟨vs, hn⟩ := h.nst; ⟨vs, hn.mods hm fun k h1 _ h2 => by have := h.pw; unfold Is at h2; omega⟩, h.pw⟩

theorem WP.below (h : WP w lo p l A c t v xs W) (hb : Below W.heap.size W W') : WP w lo p l A c t v xs W' :=
  h.next (Mods.of_below hb) (h.ce.mods (S := No) (Mods.of_below hb) fun _ hk => hk.elim)

theorem WQ.pz (h : WQ w Wq z lo p l A c t v xs u ps W) : p < w.heap.size ∧ w.heap.size ≤ Wq.heap.size ∧ Wq.heap.size ≤ W.heap.size ∧ p < z := by
  obtain ⟨t0, hq⟩ := h.q
  have h1 := hq.md.size; have h2 := h.md.size; have h3 := hq.pw; have h4 := h.hz
  exact ⟨h3, h1, h2, by omega⟩

theorem WQ.start (h : WP w lo p l A c t v xs Wq) (hb : Below Wq.heap.size Wq W) (hz : Wq.heap.size ≤ z) : WQ w Wq z lo p l A c t v xs (.slice none 0 0) [] W :=
  ⟨⟨t, h⟩, Mods.of_below hb, h.ce.mods (S := No) (Mods.of_below hb) fun _ hk => hk.elim, ⟨by simp [prs], .inl ⟨rfl, rfl⟩⟩, hz⟩

/-- The cursor, or a closure's variable, has turned. -/
theorem WQ.next {S : Nat → Prop} (h : WQ w Wq z lo p l A c t v xs u ps W) (hm : Mods S W W') (hS : ∀ k, S k → k = p ∨ (Wq.heap.size ≤ k ∧ k < z) ∨ W.heap.size ≤ k) (hc : CE lo p l A c t' W') : WQ w Wq z lo p l A c t' v xs u ps W' := by
  have hp := h.pz
  refine ⟨h.q, h.md.then hm fun k hk => ?_, hc, hm.ownS h.own fun k hk hs => ?_, h.hz⟩
  · rcases hS k hk with h1 | h1 | h1
    · exact .inl h1
    · exact .inr h1.1
    · exact .inr (by omega)
  · have h1 := ownS_lt h.own k hk
    rcases hS k hs with h2 | h2 | h2 <;> omega

theorem prs_snoc19' (l : List Pr) (p : Pr) : prs (l ++ [p]) = prs l ++ [.int .i64 p.1, .int .i64 p.2] := by simp [prs]

/-- A pair has been appended. -/
theorem WQ.app (h : WQ w Wq z lo p l A c t v xs u ps W) {a b : Int} {o : Obj} (ho : W'.ownsRow z 52 2 u' (ps.length + 1) (prs ps ++ [.int .i64 a, .int .i64 b])) (hg : (W.alloc o).grownBy W' u.ownBlock) :
    WQ w Wq z lo p l A c t v xs u' (ps ++ [(a, b)]) W' ∧ ∀ k, u.ownBlock = some k → z ≤ k := by
  have hp := h.pz
  have hm : Mods (fun k => u.ownBlock = some k) W W' := ((Mods.refl _ W).alloc o).grown hg fun k hk => .inl hk
  have hk : ∀ k, u.ownBlock = some k → z ≤ k := fun k hk => (ownS_lt h.own k hk).1
  exact ⟨⟨h.q, h.md.then hm fun k hh => .inr (by have := hk k hh; have := h.hz; omega), h.ce.mods hm fun k hh => .inr (by have := hk k hh; omega), by rw [List.length_append, prs_snoc19']; exact ho, h.hz⟩, hk⟩

/-- What lies below the list stays when a pair is appended. -/
theorem WQ.appRow (h : WQ w Wq z lo p l A c t v xs u ps W) {B : Nat} {T : TypeId} {cs : Array Value} (hr : Row W B T cs) (hB : B < z) {o : Obj} (hg : (W.alloc o).grownBy W' u.ownBlock) : Row W' B T cs :=
  hr.mods (((Mods.refl (fun k => u.ownBlock = some k) W).alloc o).grown hg fun k hk => .inl hk) fun hh => by have := (ownS_lt h.own B hh).1; omega

/-- The invariant has been appended. -/
theorem WQ.fin (h : WQ w Wq z lo p l A c t v xs u ps W) {vs : List Value} (hn : NestV pshp Wq w.heap.size v vs xs) {o : Obj}
    (ho : W'.ownsRow w.heap.size 53 1 v' (vs.length + 1) (((vs.zip xs).flatMap fun p => pshp.oc p.1 p.2) ++ pshp.oc u ps)) (hg : (W.alloc o).grownBy W' v.ownBlock) : WP w lo p l A c t v' (xs ++ [ps]) W' := by
  have hp := h.pz
  obtain ⟨t0, hq⟩ := h.q
  have hsn := hn.snoc (x := ps) h.md (fun k hk => by unfold Is at hk; omega) (by omega) (ownS_base h.own h.hz) o ho hg
  have hon := (hn.mods h.md fun k h1 _ h2 => by unfold Is at h2; omega).outer
  have hm : Mods (fun k => v.ownBlock = some k) W W' := ((Mods.refl _ W).alloc o).grown hg fun k hk => .inl hk
  have hk : ∀ k, v.ownBlock = some k → w.heap.size ≤ k := fun k hk => (ownS_lt hon k hk).1
  exact ⟨(hq.md.trans h.md).then hm fun k hh => .inr (hk k hh), h.ce.mods hm fun k hh => .inr (by have := hk k hh; omega), ⟨_, hsn⟩, hq.pw⟩

end

end Go.Proofs.Ythehcdajedaefaa
