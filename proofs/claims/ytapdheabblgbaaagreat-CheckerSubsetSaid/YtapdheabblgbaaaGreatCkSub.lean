/-
  A certificate in which a block's invariant is replaced by a subset, as data.
-/
import Derived.Test.YtapdheabblgbaaaGreatCkFit
namespace Go.Proofs.YtapdheabblgbaaaGreat
open Go.RowKit
set_option linter.unusedVariables false

theorem vlE_of {v r s : Int} : ∀ {l : List Pr} {q : Option Pr}, (∀ p ∈ l, (0 ≤ p.1 ∧ p.1 < v) ∧ locS p.2 r s = true) → Srt l → (∀ x, q = some x → ∀ p ∈ l, ltP x p = true) → vlE v r s q l = 0
  | [], _, _, _, _ => rfl
  | x :: l, q, h, hs, hq => by
    obtain ⟨⟨h1, h2⟩, h3⟩ := h x (by simp)
    have h0 : prE v r s q x = 0 := by
      unfold prE
      rw [if_neg (by omega), if_neg (by rw [h3]; decide)]
      rcases q with _ | y
      · rfl
      · dsimp only
        rw [if_pos (hq y rfl x (by simp))]
    rw [vlE, if_neg (by rw [h0]; decide)]
    refine vlE_of (fun p hp => h p (by simp [hp])) (List.Pairwise.of_cons hs) fun y e p hp => ?_
    injection e with e
    subst e
    exact List.rel_of_pairwise_cons hs hp
theorem vlE_sub {v r s : Int} {l l' : List Pr} (h : vlE v r s none l = 0) (hl : l'.Sublist l) : vlE v r s none l' = 0 :=
  vlE_of (fun p hp => vlE_range h p (hl.mem hp)) (List.Pairwise.sublist hl (vlE_srt h).1) fun x e => by cases e
theorem vlsE_of {v r s : Int} : ∀ {w : List (List Pr)}, (∀ l ∈ w, vlE v r s none l = 0) → vlsE v r s w = 0
  | [], _ => rfl
  | x :: w, h => by
    rw [vlsE, if_neg (by rw [h x (by simp)]; decide)]
    exact vlsE_of fun l hl => h l (by simp [hl])

/-- The invariant of block k replaced. -/
def Ct.sub (c : Ct) (k : Nat) (l : List Pr) : Ct := { c with inv := c.inv.set k l }

section
variable {c : Ct} {k j : Nat} {l : List Pr}
theorem sub_len : (c.sub k l).inv.length = c.inv.length := List.length_set ..
theorem sub_ne (h : j ≠ k) : (c.sub k l).i j = c.i j := by
  unfold Ct.i Ct.sub
  rw [List.getD, List.getD, List.getElem?_set_ne (fun e => h e.symm)]
theorem sub_eq (h : k < c.inv.length) : (c.sub k l).i k = l := by
  unfold Ct.i Ct.sub
  rw [List.getD, List.getElem?_set_self h]
  rfl
theorem sub_mem {x : List Pr} (hk : k < c.inv.length) (hl : l.Sublist (c.i k)) (hx : x ∈ (c.sub k l).inv) : ∃ y ∈ c.inv, x.Sublist y := by
  rcases List.mem_or_eq_of_mem_set hx with h | h
  · exact ⟨x, h, List.Sublist.refl _⟩
  · subst h
    exact ⟨c.i k, Ct.i_mem hk, hl⟩
theorem sub_valid (hv : validC c = 0) (hk : k < c.inv.length) (hl : l.Sublist (c.i k)) : validC (c.sub k l) = 0 := by
  have hv0 := hv
  unfold validC at hv
  have h1 : eF c.sa c.sr c.bs = 0 := by
    split at hv
    · rename_i h; exact absurd hv h
    · omega
  rw [if_neg (by omega)] at hv
  have h2 : eMF c.ta c.tr c.ts c.ms = 0 := by
    split at hv
    · rename_i h; exact absurd hv h
    · omega
  rw [if_neg (by omega)] at hv
  have h3 : ¬ (c.bs.length ≠ c.ms.length ∨ c.sa ≠ c.ta) := fun h => by rw [if_pos h] at hv; cases hv
  rw [if_neg h3] at hv
  unfold validE at hv
  have h4 : ¬ ((c.inv.length : Int) ≠ (c.bs.length : Int)) := fun h => by rw [if_pos h] at hv; cases hv
  rw [if_neg h4] at hv
  unfold validC
  show (if eF c.sa c.sr c.bs ≠ 0 then _ else if eMF c.ta c.tr c.ts c.ms ≠ 0 then _ else if c.bs.length ≠ c.ms.length ∨ c.sa ≠ c.ta then _ else validE (c.sub k l).inv c.bs.length c.sr c.tr c.ts) = 0
  rw [if_neg (by omega), if_neg (by omega), if_neg h3]
  unfold validE
  rw [sub_len, if_neg h4]
  refine vlsE_of fun x hx => ?_
  obtain ⟨y, hy, hs⟩ := sub_mem hk hl hx
  exact vlE_sub (vlsE_mem hv y hy) hs
theorem SmC.sub (h : SmC c) (hk : k < c.inv.length) (hl : l.Sublist (c.i k)) : SmC (c.sub k l) :=
  ⟨h.f, h.m, by rw [sub_len]; exact h.n, fun x hx => by
    obtain ⟨y, hy, hs⟩ := sub_mem hk hl hx
    exact Nat.le_trans hs.length_le (h.l y hy)⟩
theorem Ct.Wf.sub (h : c.Wf) (hk : k < c.inv.length) (hl : l.Sublist (c.i k)) : (c.sub k l).Wf :=
  ⟨h.sa, h.sr, h.ta, h.tr, h.ts, h.bs, h.ms, fun x hx p hp => by
    obtain ⟨y, hy, hs⟩ := sub_mem hk hl hx
    exact h.inv y hy p (hs.mem hp)⟩
theorem ckB_sub (h : j ≠ k) : ckB (c.sub k l) j = ckB c j := by
  unfold ckB
  rw [sub_ne h]
  rfl
/-- What the statement on subsets asks. -/
theorem checkC_subset (h : (checkC c).err = 0) (hk : k < c.bs.length) (hkl : k < c.inv.length) (hl : l.Sublist (c.i k)) :
    (okB (c.sub k l) k → (checkC (c.sub k l)).err = 0) ∧ (¬ okB (c.sub k l) k → (checkC (c.sub k l)).err ≠ 0 ∧ (checkC (c.sub k l)).blk = k) := by
  have ho := checkC_ok h
  have hv := sub_valid ho.1 hkl hl
  have hsub : ∀ t, ∀ x ∈ (c.sub k l).i t, x ∈ c.i t := fun t x hx => by
    by_cases e : t = k
    · subst e
      rw [sub_eq hkl] at hx
      exact hl.mem hx
    · rw [sub_ne e] at hx
      exact hx
  have hoth : ∀ j, j < c.bs.length → j ≠ k → okB (c.sub k l) j := fun j hj hne => by
    obtain ⟨h1, h2⟩ := ho.2.2 j hj
    refine ⟨by rw [ckB_sub hne]; exact h1, fun t ht => ?_⟩
    rw [ckB_sub hne]
    exact misP_none.2 fun x hx => misP_none.1 (h2 t ht) x (hsub _ x hx)
  have hent : entP ((c.sub k l).i 0) (c.sub k l).sa = none := entP_none.2 fun p hp => entP_none.1 ho.2.1 p (hsub 0 p hp)
  refine ⟨fun hb => okC_checkC ⟨hv, hent, fun j hj => ?_⟩, fun hb => ?_⟩
  · by_cases e : j = k
    · subst e; exact hb
    · exact hoth j hj e
  · rcases checkC_ways (c.sub k l) hv with h1 | ⟨h1, _⟩ | ⟨_, j, h2, h3, _, h5, _, h6⟩
    · exact absurd (h1.1.2.2 k hk) hb
    · exact absurd hent h1
    · refine ⟨h5, ?_⟩
      by_cases e : j = k
      · rw [h6, e]
      · exact absurd (hoth j h2 e) h3
end

end Go.Proofs.YtapdheabblgbaaaGreat
